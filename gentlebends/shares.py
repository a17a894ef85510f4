"""SHARES of KNOTS: the ROW that they make, and the shares that make a ROW."""

from gentlebends.errors import NoKnots
from gentlebends.errors import NoShares
from gentlebends.fractions import contrary_of
from gentlebends.hills import shared_row
from gentlebends.knots import how_many_hills
from gentlebends.knots import spans_of
from gentlebends.knots import stretch_of
from gentlebends.polar import polar_at
from gentlebends.polys import moved_poly
from gentlebends.rows import piece_at
from gentlebends.rows import smooth_at


def ask_shares(degree, knots, shares):
    """Nothing, or NoShares where there aren't as many shares as hills."""
    due = how_many_hills(degree, knots)
    if len(shares) != due:
        raise NoShares(due)


def row_of_shares(degree, knots, shares):
    """The ROW of SHARES over the STRETCH of their KNOTS."""
    ask_shares(degree, knots, shares)
    return shared_row(degree, knots, shares)


def due_smooth(degree, often):
    """How smooth a ROW has to be at a place that stands so often among the knots."""
    return 3 if often == 0 else degree - often


def fault_by_knots(degree, knots, row):
    """None where a ROW is OF KNOTS, else the first fault: a pair (word, number)."""
    cuts, pieces = row
    if (cuts[0], cuts[-1]) != stretch_of(degree, knots):
        return ("stretch", -1)
    for k, piece in enumerate(pieces):
        if len(piece) > degree + 1:
            return ("degree", k)
    for k in range(1, len(pieces)):
        if smooth_at(row, k) < due_smooth(degree, knots.count(cuts[k])):
            return ("smooth", k)
    return None


def poly_behind(row, x):
    """The POLY of the piece behind a place, in the place itself."""
    k = piece_at(row, x)
    return moved_poly(row[1][k], contrary_of(row[0][k]))


def share_at(degree, knots, row, k):
    """Share k of a ROW OF KNOTS."""
    # On any span between knot k and knot k + p + 1 the POLAR is the same.
    span = max([j for j in spans_of(degree, knots) if j <= k + degree])
    return polar_at(degree, poly_behind(row, knots[span]), knots[k + 1:k + degree + 1])


def shares_of_row(degree, knots, row):
    """The SHARES whose ROW has the same value as a ROW at each place."""
    fault = fault_by_knots(degree, knots, row)
    if fault is not None:
        word, number = fault
        raise NoKnots(word, number)
    return tuple(share_at(degree, knots, row, k) for k in range(how_many_hills(degree, knots)))
