"""How often FRACTIONs turn their side, and the CAGE of a ROW's value."""

from gentlebends.errors import NoPlace
from gentlebends.fractions import greatest_of
from gentlebends.fractions import least_of
from gentlebends.fractions import sign_of
from gentlebends.knots import is_outside_stretch
from gentlebends.knots import span_at
from gentlebends.shares import ask_shares


def turns_in(some):
    """How often a list or tuple of FRACTIONs TURNS."""
    signs = [sign_of(one) for one in some if sign_of(one) != 0]
    return len([k for k in range(1, len(signs)) if signs[k] != signs[k - 1]])


def cage_at(degree, knots, shares, x):
    """The least and the greatest of the shares that the value at a place of the STRETCH is made of."""
    ask_shares(degree, knots, shares)
    if is_outside_stretch(degree, knots, x):
        raise NoPlace(x)
    j = span_at(degree, knots, x)
    around = shares[j - degree:j + 1]
    return (least_of(around), greatest_of(around))
