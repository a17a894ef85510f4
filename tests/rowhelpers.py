"""Rows halved and cut, their heads, and how many roots a polynomial has, a second way by Python's own arithmetic."""

import random
from fractions import Fraction

from helpers import f, hermite_row, poly_bends, q, rising, row, trimmed
from test_heading import all_own_heads, own_cuts, rows


def wavy_row(chance, pieces, figures=2):
    """A ROW, smooth in its slopes, that is steep against how far its values are from one another."""
    places = rising(chance, pieces + 1, figures)
    mean = (q(places[-1]) - q(places[0])) / pieces
    values = [Fraction(chance.randint(-6, 6), chance.randint(1, 3)) for place in places]
    slopes = [chance.randint(-30, 30) / mean for place in places]
    return hermite_row(places, values, slopes)


def many_rows(seed, times=1, sizes=(1, 2, 15)):
    """Rows of one to five pieces of all degrees, and wavy ones."""
    yield from rows(seed, times, (1, 2, 3, 5), sizes)
    chance = random.Random(seed)
    for figures in sizes:
        for pieces in (1, 2, 3, 5):
            for time in range(times):
                yield wavy_row(chance, pieces, figures)
                yield row(chance, pieces, 0, 1)


def own_recut(some, cuts):
    """A ROW over cuts, FRACTIONs, that have its own among them."""
    pieces = []
    for cut in cuts[:-1]:
        k = max(k for k in range(len(some[1])) if q(some[0][k]) <= q(cut))
        bends = poly_bends(some[1][k], q(cut) - q(some[0][k]))
        pieces.append(trimmed([bends[0], bends[1], bends[2] / 2, bends[3] / 6]))
    return (tuple(cuts), tuple(pieces))


def own_halved(some, many):
    return own_recut(some, own_cuts(some, many))


def with_own_cuts(some, cuts):
    """A ROW cut at these, too."""
    both = sorted({q(cut) for cut in (*some[0], *cuts)})
    return own_recut(some, [f(cut) for cut in both])


def cut_heights(some):
    """The values at a ROW's cuts."""
    heads = all_own_heads(some)
    return [four[0] for four in heads] + [heads[-1][3]]


def rest_of(one, other):
    """What is left of a polynomial divided by another one, both lists of Python's own numbers by rising power."""
    one = list(one)
    while len(one) >= len(other):
        by = one[-1] / other[-1]
        for k, number in enumerate(other):
            one[len(one) - len(other) + k] -= by * number
        one.pop()
        while one and one[-1] == 0:
            one.pop()
    return one


def sign_changes(chain, t):
    values = [sum(c * t ** k for k, c in enumerate(part)) for part in chain]
    signs = [value > 0 for value in values if value != 0]
    return sum(a != b for a, b in zip(signs, signs[1:]))


def roots_between(numbers, d):
    """How many unlike roots a polynomial that isn't nought has strictly between 0 and d, by Sturm's chain."""
    numbers = [Fraction(number) for number in numbers]
    while numbers and numbers[-1] == 0:
        numbers.pop()
    if not numbers:
        raise AssertionError("nought everywhere")
    # A root at 0 or at d is divided off: the others are counted then.
    for root in (Fraction(0), d):
        while sum(c * root ** k for k, c in enumerate(numbers)) == 0:
            quotient = [numbers[-1]]
            for number in reversed(numbers[1:-1]):
                quotient.insert(0, number + root * quotient[0])
            numbers = quotient
    chain = [numbers, [k * c for k, c in enumerate(numbers)][1:]]
    while chain[-1]:
        chain.append([-c for c in rest_of(chain[-2], chain[-1])])
    chain.pop()
    return sign_changes(chain, Fraction(0)) - sign_changes(chain, d)


def times_met(some, height):
    """At how many places a ROW has a height, None where it lies at it over a whole piece."""
    cuts, pieces = some
    met = sum(value == height for value in cut_heights(some))
    for k, piece in enumerate(pieces):
        own = [q(c) for c in piece] or [Fraction(0)]
        own[0] -= height
        if not any(own):
            return None
        met += roots_between(own, q(cuts[k + 1]) - q(cuts[k]))
    return met
