"""KNOTS: tuples of FRACTIONs that never fall, between which hills stand."""

from gentlebends.errors import NoKnots
from gentlebends.fractions import are_fractions
from gentlebends.fractions import is_below


def stretch_of(degree, knots):
    """The begin and the end of the STRETCH."""
    return (knots[degree], knots[len(knots) - 1 - degree])


def is_inside(degree, knots, x):
    """Whether a place is INSIDE: above the STRETCH's begin and below its end."""
    begin, end = stretch_of(degree, knots)
    return is_below(begin, x) and is_below(x, end)


def first_fall(knots):
    """The number of the first knot that is below the one ahead, None without any."""
    for k in range(1, len(knots)):
        if is_below(knots[k], knots[k - 1]):
            return k
    return None


def first_often(degree, knots):
    """The least number of a knot INSIDE that is alike with the one a DEGREE behind it, None without any."""
    for k in range(len(knots) - degree):
        if is_inside(degree, knots, knots[k]) and knots[k] == knots[k + degree]:
            return k
    return None


def how_many_hills(degree, knots):
    """How many HILLS the KNOTS have."""
    return len(knots) - 1 - degree


def knots_fault(degree, thing):
    """None where any plain thing is KNOTS of a DEGREE, else the first fault: a pair (word, number)."""
    if not are_fractions(thing) or len(thing) < 2 * degree + 2:
        return ("shape", -1)
    fall = first_fall(thing)
    if fall is not None:
        return ("falls", fall)
    last = len(thing) - 1 - degree
    for k, number in ((degree, degree), (last - 1, last)):
        if not is_below(thing[k], thing[k + 1]):
            return ("ends", number)
    often = first_often(degree, thing)
    if often is not None:
        return ("often", often)
    return None


def ask_knots(degree, thing):
    """True where any plain thing is KNOTS of a DEGREE."""
    fault = knots_fault(degree, thing)
    if fault is not None:
        word, number = fault
        raise NoKnots(word, number)
    return True


def is_outside_stretch(degree, knots, x):
    """Whether a place is outside the STRETCH."""
    begin, end = stretch_of(degree, knots)
    return is_below(x, begin) or is_below(end, x)


def spans_of(degree, knots):
    """The numbers of the knots of the STRETCH behind which an unlike one comes next."""
    return [j for j in range(degree, len(knots) - 1 - degree) if is_below(knots[j], knots[j + 1])]


def span_at(degree, knots, x):
    """The number of the last knot not above a place of the STRETCH, at its end of the last one below it."""
    return max([j for j in spans_of(degree, knots) if not is_below(x, knots[j])])
