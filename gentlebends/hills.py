"""The HILLS of KNOTS: their heights at a place, and their ROWs."""

from gentlebends.errors import NoKnot
from gentlebends.errors import NoPlace
from gentlebends.fractions import NOUGHT
from gentlebends.fractions import contrary_of
from gentlebends.fractions import minus_by
from gentlebends.fractions import over_by
from gentlebends.knots import how_many_hills
from gentlebends.knots import is_outside_stretch
from gentlebends.knots import span_at
from gentlebends.knots import spans_of
from gentlebends.knots import stretch_of
from gentlebends.polys import number_at
from gentlebends.polys import poly_of
from gentlebends.polys import poly_scaled
from gentlebends.polys import poly_sum
from gentlebends.polys import poly_times


def way_along(low, high, place):
    """How much of the way from low to high a place, a POLY, has gone, as a POLY."""
    return poly_scaled(poly_sum(place, poly_of([contrary_of(low)])), over_by((1, 1), minus_by(high, low)))


def next_hills(knots, j, hills, place):
    """Of all hills by a degree d - 1 that stand between knots j and j + 1, at a place, those by degree d."""
    d = len(hills)
    nexts = [()] * (d + 1)
    for at, hill in enumerate(hills):
        k = j - d + 1 + at
        # Both knots lie around the span, so they are unlike.
        upward = poly_times(way_along(knots[k], knots[k + d], place), hill)
        downward = poly_times(way_along(knots[k + d], knots[k], place), hill)
        nexts[at] = poly_sum(nexts[at], downward)
        nexts[at + 1] = poly_sum(nexts[at + 1], upward)
    return nexts


def span_hills(degree, knots, j, place):
    """The heights, POLYs, of hills j - p to j at a place, a POLY, between knots j and j + 1; all others are nought."""
    hills = [((1, 1),)]
    while len(hills) <= degree:
        hills = next_hills(knots, j, hills, place)
    return hills


def hills_at(degree, knots, x):
    """The heights of all hills at a place of the STRETCH."""
    if is_outside_stretch(degree, knots, x):
        raise NoPlace(x)
    j = span_at(degree, knots, x)
    heights = [NOUGHT] * how_many_hills(degree, knots)
    for at, hill in enumerate(span_hills(degree, knots, j, poly_of([x]))):
        heights[j - degree + at] = number_at(hill, 0)
    return tuple(heights)


def shared_piece(degree, knots, shares, j):
    """The sum of all shares times their hills between knots j and j + 1, a POLY in the place less knot j."""
    total = ()
    for at, hill in enumerate(span_hills(degree, knots, j, (knots[j], (1, 1)))):
        total = poly_sum(total, poly_scaled(hill, shares[j - degree + at]))
    return total


def shared_row(degree, knots, shares):
    """The ROW of shares, one a hill, over the STRETCH."""
    spans = spans_of(degree, knots)
    cuts = [knots[j] for j in spans]
    cuts.append(stretch_of(degree, knots)[1])
    return (tuple(cuts), tuple(shared_piece(degree, knots, shares, j) for j in spans))


def hill_row(degree, knots, k):
    """The ROW of hill k over the STRETCH."""
    many = how_many_hills(degree, knots)
    if not 0 <= k < many:
        raise NoKnot(k)
    return shared_row(degree, knots, [(1, 1) if j == k else NOUGHT for j in range(many)])
