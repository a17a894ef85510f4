"""Sums beneath ROWs, pairings and bendings."""

from gentlebends.cutting import part_of
from gentlebends.errors import NoPlace
from gentlebends.errors import NoSmooth
from gentlebends.fractions import NOUGHT
from gentlebends.fractions import contrary_of
from gentlebends.fractions import is_below
from gentlebends.fractions import sum_of
from gentlebends.polys import slope_of
from gentlebends.polys import under_poly
from gentlebends.polys import under_product
from gentlebends.rows import first_unlike_slopes
from gentlebends.rows import is_outside
from gentlebends.rows import length_of
from gentlebends.rowsums import both_recut


def under_whole(row):
    """The sum beneath a whole ROW."""
    return sum_of([under_poly(piece, NOUGHT, length_of(row, k)) for k, piece in enumerate(row[1])])


def under_row(row, low, high):
    """The sum beneath a ROW from one place of its stretch to another."""
    if is_outside(row, low):
        raise NoPlace(low)
    if is_outside(row, high):
        raise NoPlace(high)
    if low == high:
        return NOUGHT
    if is_below(high, low):
        return contrary_of(under_whole(part_of(row, high, low)))
    return under_whole(part_of(row, low, high))


def ask_smooth(row):
    """Nothing, or NoSmooth where slopes are unlike at an inner cut."""
    k = first_unlike_slopes(row)
    if k is not None:
        raise NoSmooth(k)


def bent_of(sort, poly):
    """The slope of a POLY by sort 1, its slope's slope by sort 3."""
    slope = slope_of(poly)
    return slope if sort == 1 else slope_of(slope)


def paired_sum(sort, one, other):
    """The sum beneath the product of the slopes, or the slopes' slopes, of two ROWs with the same cuts."""
    parts = []
    for k, (a, b) in enumerate(zip(one[1], other[1])):
        parts.append(under_product(bent_of(sort, a), bent_of(sort, b), NOUGHT, length_of(one, k)))
    return sum_of(parts)


def pairing_of(sort, one, other):
    """The PAIRING of two ROWs of one stretch by a sort."""
    first, second = both_recut(one, other)
    if sort == 3:
        ask_smooth(one)
        ask_smooth(other)
    return paired_sum(sort, first, second)


def bending_of(sort, row):
    """The BENDING of a ROW by a sort: its pairing with itself."""
    if sort == 3:
        ask_smooth(row)
    return paired_sum(sort, row, row)
