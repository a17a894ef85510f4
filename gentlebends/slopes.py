"""The SLOPE SHARES: knots and shares, one degree less, of a ROW's slope."""

from gentlebends.errors import NoKnots
from gentlebends.fractions import minus_by
from gentlebends.fractions import over_by
from gentlebends.fractions import times_by
from gentlebends.knots import first_often
from gentlebends.shares import ask_shares


def rise_between(degree, knots, shares, k):
    """Share k of the slope: how share k rises to the next one, by the knots between which both hills stand."""
    rise = times_by((degree, 1), minus_by(shares[k + 1], shares[k]))
    # These two knots are unlike: only knots 0 to p, and the last ones likewise, may be p + 1 alike ones.
    return over_by(rise, minus_by(knots[k + degree + 1], knots[k + 1]))


def slope_shares(degree, knots, shares):
    """The pair (knots, shares), of a DEGREE less by one, whose ROW is the slope of the ROW of these."""
    ask_shares(degree, knots, shares)
    inner = tuple(knots[1:-1])
    often = first_often(degree - 1, inner)
    if often is not None:
        # Its number is told by the knots that were handed in: the first one stands ahead of these.
        raise NoKnots("often", often + 1)
    return (inner, tuple(rise_between(degree, knots, shares, k) for k in range(len(shares) - 1)))
