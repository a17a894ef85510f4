"""ROWs added, multiplied, moved and mirrored."""

from gentlebends.cutting import have_one_stretch
from gentlebends.cutting import merged_cuts
from gentlebends.cutting import recut_row
from gentlebends.errors import NoStretch
from gentlebends.fractions import contrary_of
from gentlebends.fractions import plus_by
from gentlebends.polys import mirrored_poly
from gentlebends.polys import moved_poly
from gentlebends.polys import poly_scaled
from gentlebends.polys import poly_sum
from gentlebends.rows import length_of


def both_recut(one, other):
    """Two ROWs of one stretch, each with the cuts of both."""
    if not have_one_stretch(one, other):
        raise NoStretch("the two rows have unlike stretches")
    cuts = merged_cuts(one[0], other[0])
    return (recut_row(one, cuts), recut_row(other, cuts))


def row_sum(one, other):
    """The sum of two ROWs of one stretch."""
    first, second = both_recut(one, other)
    return (first[0], tuple(poly_sum(a, b) for a, b in zip(first[1], second[1])))


def row_scaled(row, by):
    """A ROW times a FRACTION."""
    return (row[0], tuple(poly_scaled(piece, by) for piece in row[1]))


def moved_row(row, a):
    """The ROW that has at x + a the value that this one has at x."""
    return (tuple(plus_by(cut, a) for cut in row[0]), row[1])


def mirrored_row(row):
    """The ROW that has at -x the value that this one has at x."""
    cuts = [contrary_of(cut) for cut in row[0]]
    pieces = [mirrored_poly(moved_poly(piece, length_of(row, k))) for k, piece in enumerate(row[1])]
    return (tuple(cuts[::-1]), tuple(pieces[::-1]))
