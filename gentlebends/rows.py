"""ROWs: tuples (cuts, pieces) of POLYs that are joined at the cuts."""

from gentlebends.errors import NoCut
from gentlebends.errors import NoPlace
from gentlebends.fractions import NOUGHT
from gentlebends.fractions import are_fractions
from gentlebends.fractions import is_below
from gentlebends.fractions import is_rising
from gentlebends.fractions import minus_by
from gentlebends.polys import is_poly
from gentlebends.polys import moved_poly
from gentlebends.polys import number_at
from gentlebends.polys import raw_value
from gentlebends.polys import slope_of
from gentlebends.polys import value_of


def are_cuts(thing):
    """Whether any plain thing is a tuple of two or more FRACTIONs, rising."""
    return are_fractions(thing) and len(thing) >= 2 and is_rising(thing)


def are_pieces(thing, many):
    """Whether any plain thing is a tuple of so many POLYs."""
    if not isinstance(thing, tuple) or len(thing) != many:
        return False
    return all(is_poly(piece) for piece in thing)


def is_joined_at(cuts, pieces, k):
    """Whether the piece ahead of inner cut k ends with the value with which the one behind begins."""
    # Compared crosswise: to make the value lowest is slow where a thing has very great numbers.
    a, b = cuts[k - 1]
    c, d = cuts[k]
    top, bottom = raw_value(pieces[k - 1], (c * b - a * d, b * d))
    u, v = number_at(pieces[k], 0)
    return top * v == u * bottom


def is_row(thing):
    """Whether any plain thing is a ROW."""
    if not isinstance(thing, tuple) or len(thing) != 2:
        return False
    cuts, pieces = thing
    if not are_cuts(cuts) or not are_pieces(pieces, len(cuts) - 1):
        return False
    return all(is_joined_at(cuts, pieces, k) for k in range(1, len(pieces)))


def row_of_poly(low, high, poly):
    """A POLY in the place itself as a ROW of one piece."""
    if not is_below(low, high):
        raise NoPlace(high)
    return ((low, high), (moved_poly(poly, low),))


def is_beyond(cuts, x):
    """Whether a place is ahead of the first of rising cuts or behind the last one."""
    return is_below(x, cuts[0]) or is_below(cuts[-1], x)


def is_outside(row, x):
    """Whether a place is outside a ROW's stretch."""
    return is_beyond(row[0], x)


def span_behind(cuts, x):
    """The number of the last of rising cuts, but the very last one, that isn't above a place between them."""
    if is_beyond(cuts, x):
        raise NoPlace(x)
    k = 0
    while k < len(cuts) - 2 and not is_below(x, cuts[k + 1]):
        k += 1
    return k


def piece_at(row, x):
    """The number of the piece behind a place of the stretch, of the last one at the last cut."""
    return span_behind(row[0], x)


def value_at(row, x):
    """The value of a ROW at a place."""
    k = piece_at(row, x)
    return value_of(row[1][k], minus_by(x, row[0][k]))


def slope_at(row, x):
    """The slope of a ROW behind a place, at its last cut that ahead of it."""
    k = piece_at(row, x)
    return value_of(slope_of(row[1][k]), minus_by(x, row[0][k]))


def length_of(row, k):
    """How long piece k of a ROW is."""
    return minus_by(row[0][k + 1], row[0][k])


def bends_of(poly, t):
    """The four BENDS of a POLY at t."""
    bends = []
    while len(bends) < 4:
        bends.append(value_of(poly, t))
        poly = slope_of(poly)
    return tuple(bends)


def bends_at(row, x):
    """The BENDS of a ROW ahead of a place and behind it."""
    k = piece_at(row, x)
    cuts, pieces = row
    here = bends_of(pieces[k], minus_by(x, cuts[k]))
    if x == cuts[0]:
        return (None, here)
    if x == cuts[-1]:
        return (here, None)
    if x == cuts[k]:
        return (bends_of(pieces[k - 1], length_of(row, k - 1)), here)
    return (here, here)


def smooth_at(row, k):
    """How smooth a ROW is at its inner cut number k."""
    if not 0 < k < len(row[1]):
        raise NoCut(k)
    ahead = bends_of(row[1][k - 1], length_of(row, k - 1))
    behind = bends_of(row[1][k], NOUGHT)
    smooth = 0
    while smooth < 3 and ahead[smooth + 1] == behind[smooth + 1]:
        smooth += 1
    return smooth


def smooth_of(row):
    """How smooth a ROW is: the least of its inner cuts, 3 without any."""
    return min([smooth_at(row, k) for k in range(1, len(row[1]))], default=3)


def first_unlike_slopes(row):
    """The number of the first inner cut with unlike slopes on its two sides, None without any."""
    pieces = row[1]
    for k in range(1, len(pieces)):
        ahead = value_of(slope_of(pieces[k - 1]), length_of(row, k - 1))
        if ahead != number_at(pieces[k], 1):
            return k
    return None
