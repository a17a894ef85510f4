"""KNOTS by chance, and hills and rows of shares by the words of the document, with Python's own arithmetic."""

import itertools
import random
from fractions import Fraction

from helpers import f, fraction, q


def knot(chance):
    return f(chance.randint(-84, 84), chance.randint(1, 6))


def own_fault(degree, knots):
    """None or the pair of [50], of a tuple of FRACTIONs long enough."""
    own = [q(one) for one in knots]
    last = len(own) - 1
    for k in range(1, len(own)):
        if own[k] < own[k - 1]:
            return ("falls", k)
    if own[degree + 1] <= own[degree]:
        return ("ends", degree)
    if own[last - degree] <= own[last - degree - 1]:
        return ("ends", last - degree)
    for k, one in enumerate(own):
        if own[degree] < one < own[last - degree] and own[k + degree] == one:
            return ("often", k)
    return None


def some_knots(chance, degree, many=None, ends=None):
    """KNOTS of a DEGREE; ends tells whether the first and the last stand p + 1 times."""
    many = chance.randint(2 * degree + 2, 12) if many is None else many
    ends = chance.random() < 0.5 if ends is None else ends
    while True:
        runs = [degree + 1, degree + 1] if ends else []
        while sum(runs) < many:
            runs.insert(1, min(chance.randint(1, degree), many - sum(runs)))
        places = sorted({q(knot(chance)) for run in runs})
        found = [f(place) for place, run in zip(places, runs) for time in range(run)]
        if len(found) == many and own_fault(degree, found) is None:
            return tuple(found)


def all_knots(seed, times=3):
    """KNOTS of the three degrees, of just 2 p + 2, of more, and of twelve."""
    chance = random.Random(seed)
    for degree in (1, 2, 3):
        for many in (2 * degree + 2, 2 * degree + 3, 10, 12):
            for ends in (False, True):
                for time in range(times):
                    yield degree, some_knots(chance, degree, many, ends)


def some_shares(chance, degree, knots, figures=2):
    return tuple(fraction(chance, figures) for k in range(len(knots) - 1 - degree))


def own_stretch(degree, knots):
    return q(knots[degree]), q(knots[len(knots) - 1 - degree])


def own_cuts(degree, knots):
    """The unlike knots from the STRETCH's begin to its end."""
    low, high = own_stretch(degree, knots)
    return tuple(f(one) for one in sorted({q(one) for one in knots if low <= q(one) <= high}))


def hill_by_words(degree, knots, k, x, at_end):
    """Hill k at x by the rule of [51]; at the STRETCH's end by the span ahead of it."""
    own = [q(one) for one in knots]
    if degree == 0:
        return Fraction(own[k] < x <= own[k + 1] if at_end else own[k] <= x < own[k + 1])
    total = Fraction(0)
    if own[k + degree] != own[k]:
        total += (x - own[k]) / (own[k + degree] - own[k]) * hill_by_words(degree - 1, knots, k, x, at_end)
    if own[k + degree + 1] != own[k + 1]:
        part = (own[k + degree + 1] - x) / (own[k + degree + 1] - own[k + 1])
        total += part * hill_by_words(degree - 1, knots, k + 1, x, at_end)
    return total


def own_hills(degree, knots, x):
    """All hills' heights at x, Python's own numbers."""
    at_end = x == own_stretch(degree, knots)[1]
    return [hill_by_words(degree, knots, k, x, at_end) for k in range(len(knots) - 1 - degree)]


def own_value(degree, knots, shares, x):
    """The value at x of the ROW of SHARES."""
    return sum(q(share) * height for share, height in zip(shares, own_hills(degree, knots, x)))


def places_in(degree, knots):
    """Knots of the STRETCH and places between them, Python's own numbers: enough to tell rows of degree p apart."""
    cuts = [q(cut) for cut in own_cuts(degree, knots)]
    places = list(cuts)
    for low, high in zip(cuts, cuts[1:]):
        places += [low + (high - low) * part for part in (Fraction(1, 5), Fraction(1, 2), Fraction(6, 7))]
    return sorted(places)


def own_polar(degree, poly, places):
    """The POLAR by the words of [54], of Python's own numbers."""
    total = Fraction(0)
    for j, number in enumerate(poly):
        choices = list(itertools.combinations(places, j))
        products = []
        for choice in choices:
            product = Fraction(1)
            for place in choice:
                product *= place
            products.append(product)
        total += number * sum(products) / len(choices)
    return total
