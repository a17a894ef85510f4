"""Knots put in and taken out, the ROW staying the same."""

from gentlebends.errors import NoKnot
from gentlebends.errors import NoKnots
from gentlebends.errors import NoPlace
from gentlebends.fractions import minus_by
from gentlebends.fractions import over_by
from gentlebends.fractions import plus_by
from gentlebends.fractions import times_by
from gentlebends.knots import is_inside
from gentlebends.knots import span_at
from gentlebends.shares import ask_shares
from gentlebends.shares import fault_by_knots
from gentlebends.shares import row_of_shares
from gentlebends.shares import shares_of_row


def share_between(degree, knots, shares, x, k):
    """The share that lies as far from share k - 1 to share k as the place from knot k to knot k + p."""
    way = over_by(minus_by(x, knots[k]), minus_by(knots[k + degree], knots[k]))
    return plus_by(shares[k - 1], times_by(way, minus_by(shares[k], shares[k - 1])))


def put_in(degree, knots, shares, x):
    """The pair (knots, shares) with one knot more at a place."""
    ask_shares(degree, knots, shares)
    if not is_inside(degree, knots, x):
        raise NoPlace(x)
    if knots.count(x) >= degree:
        raise NoKnots("often", knots.index(x))
    j = span_at(degree, knots, x)
    # Only the hills that stand on the span around the place are split: their shares alone turn.
    between = [share_between(degree, knots, shares, x, k) for k in range(j - degree + 1, j + 1)]
    return ((*knots[:j + 1], x, *knots[j + 1:]), (*shares[:j - degree + 1], *between, *shares[j:]))


def put_all(degree, knots, shares, places):
    """The pair (knots, shares) with knots at all places put in, one behind the other."""
    ask_shares(degree, knots, shares)
    pair = (tuple(knots), tuple(shares))
    for x in places:
        pair = put_in(degree, pair[0], pair[1], x)
    return pair


def taken_out(degree, knots, shares, k):
    """The pair (knots, shares) without knot k."""
    ask_shares(degree, knots, shares)
    if not 0 <= k < len(knots) or not is_inside(degree, knots, knots[k]):
        raise NoKnot(k)
    fewer = (*knots[:k], *knots[k + 1:])
    row = row_of_shares(degree, knots, shares)
    if fault_by_knots(degree, fewer, row) is not None:
        raise NoKnot(k)
    return (fewer, shares_of_row(degree, fewer, row))
