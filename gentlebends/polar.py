"""The POLAR of a POLY: its value, spread over several places."""

from gentlebends.fractions import NOUGHT
from gentlebends.fractions import plus_by
from gentlebends.fractions import sum_of
from gentlebends.fractions import times_by

# How many choices of 0, 1 .. of p places there are, for each p.
CHOICES = ((1,), (1, 1), (1, 2, 1), (1, 3, 3, 1))


def chosen_products(places):
    """For each j from 0 on the sum of the products of j of the places, over all choices of j of them."""
    sums = [(1, 1)]
    for place in places:
        grown = [times_by(place, one) for one in sums]
        sums = [plus_by(a, b) for a, b in zip([*sums, NOUGHT], [NOUGHT, *grown])]
    return sums


def polar_at(degree, poly, places):
    """The POLAR of a POLY of degree at most p at a tuple of p FRACTIONs."""
    sums = chosen_products(places)
    parts = []
    for j, number in enumerate(poly):
        mean = times_by(sums[j], (1, CHOICES[degree][j]))
        parts.append(times_by(number, mean))
    return sum_of(parts)
