"""Sums beneath ROWs, pairings, bendings: [23], [24]."""

import random
import unittest
from fractions import Fraction

from gentlebends.bending import bending_of, pairing_of, under_row
from gentlebends.errors import NoPlace, NoSmooth, NoStretch
from gentlebends.rowsums import row_sum
from helpers import Asking, f, fs, q, rising, row, row_over, spread
from test_rowsums import with_ends

TENT = (fs(0, 1, 3), (fs(0, 2), fs(2, -1)))


def polynomial_of(piece, begin):
    """The numbers of a piece in the place itself, by Python's own arithmetic."""
    numbers = [Fraction(0)] * 4
    power = [Fraction(1)]
    for c in piece:
        for k, part in enumerate(power):
            numbers[k] += q(c) * part
        shifted = [Fraction(0), *power]
        for k, part in enumerate(power):
            shifted[k] -= begin * part
        power = shifted
    return numbers


def slope(numbers):
    return [k * c for k, c in enumerate(numbers)][1:]


def beneath(numbers, low, high):
    return sum((c * (high ** (k + 1) - low ** (k + 1)) / (k + 1) for k, c in enumerate(numbers)), Fraction(0))


def piece_numbers(some, x):
    """The numbers, in the place itself, of the piece within which x is."""
    for k, piece in enumerate(some[1]):
        if q(some[0][k]) < x < q(some[0][k + 1]):
            return polynomial_of(piece, q(some[0][k]))
    raise AssertionError("outside")


def own_pairing(sort, one, other):
    total = Fraction(0)
    places = sorted({q(c) for c in (*one[0], *other[0])})
    for low, high in zip(places, places[1:]):
        a, b = [piece_numbers(some, (low + high) / 2) for some in (one, other)]
        for time in range(1 if sort == 1 else 2):
            a, b = slope(a), slope(b)
        product = [Fraction(0)] * 7
        for j, c in enumerate(a):
            for k, d in enumerate(b):
                product[j + k] += c * d
        total += beneath(product, low, high)
    return f(total)


def own_under(some, low, high):
    total = Fraction(0)
    for k, piece in enumerate(some[1]):
        begin, end = max(q(some[0][k]), low), min(q(some[0][k + 1]), high)
        if begin < end:
            total += beneath(polynomial_of(piece, q(some[0][k])), begin, end)
    return total


class Under(Asking, unittest.TestCase):

    def test_under(self):
        chance = random.Random(70)
        for time in range(60):
            some = row(chance, None, chance.randint(0, 3), chance.choice((1, 2, 12)))
            places = [*spread(some[0][0], some[0][-1], 9), *[q(c) for c in some[0]]]
            low, high = sorted((chance.choice(places), chance.choice(places)))
            due = own_under(some, low, high)
            self.tells(f(due), under_row, some, f(low), f(high))
            self.tells(f(-due), under_row, some, f(high), f(low))
            self.tells((0, 1), under_row, some, f(low), f(low))

    def test_tent(self):
        self.tells((3, 1), under_row, TENT, (0, 1), (3, 1))
        self.tells((-3, 1), under_row, TENT, (3, 1), (0, 1))
        self.tells((0, 1), under_row, TENT, (3, 1), (3, 1))
        self.tells((0, 1), under_row, TENT, (0, 1), (0, 1))
        self.tells((1, 1), under_row, TENT, (0, 1), (1, 1))

    def test_outside(self):
        for low, high, place in (((-1, 1), (1, 1), (-1, 1)), ((4, 1), (-1, 1), (4, 1)), ((1, 1), (4, 1), (4, 1)),
                                 ((3, 1), (-1, 9), (-1, 9)), ((4, 1), (4, 1), (4, 1)), ((5, 1), (4, 1), (5, 1))):
            self.refuses(NoPlace, {"place": place}, under_row, TENT, low, high)


class Pairing(Asking, unittest.TestCase):

    def test_pairing(self):
        chance = random.Random(71)
        for time in range(60):
            figures = chance.choice((1, 2, 12))
            low, high = rising(chance, 2, figures)
            for sort in (1, 3):
                one, other = [with_ends(chance, low, high, figures) for time in range(2)]
                if sort == 3:
                    one, other = [row_over(chance, some[0], 1, figures) for some in (one, other)]
                due = own_pairing(sort, one, other)
                self.tells(due, pairing_of, sort, one, other)
                self.tells(due, pairing_of, sort, other, one)
                own = own_pairing(sort, one, one)
                self.tells(own, bending_of, sort, one)
                self.assertGreaterEqual(q(own), 0)

    def test_bending_of_a_sum(self):
        chance = random.Random(72)
        for sort in (1, 3):
            one = row_over(chance, fs(0, 1, 5, 9), 1)
            other = row_over(chance, fs(0, 2, 5, 9), 1)
            parts = [bending_of(sort, one), pairing_of(sort, one, other), bending_of(sort, other)]
            due = q(parts[0]) + 2 * q(parts[1]) + q(parts[2])
            self.tells(f(due), bending_of, sort, row_sum(one, other))

    def test_known(self):
        self.tells((6, 1), bending_of, 1, TENT)
        self.tells((0, 1), bending_of, 3, (fs(0, 3), (fs(0, 2),)))
        self.tells((12, 1), bending_of, 3, (fs(0, 1), (fs(0, 0, 0, 1),)))
        self.tells((0, 1), bending_of, 1, (fs(0, 3, 4), ((), ())))

    def test_unlike_stretches(self):
        for sort in (1, 3):
            for cuts in (fs(0, 2), fs(1, 3), fs(-1, 4)):
                self.refuses(NoStretch, {}, pairing_of, sort, TENT, (cuts, ((),)))
                self.refuses(NoStretch, {}, pairing_of, sort, (cuts, ((),)), TENT)

    def test_unlike_slopes(self):
        late = (fs(0, 1, 2, 3), (fs(0, 1), fs(1, 1), fs(2, -1)))
        later = (fs(0, Fraction(1, 2), 1, 2, 3), ((), (), (), fs(0, 1)))
        plain = (fs(0, 3), ((),))
        self.refuses(NoSmooth, {"number": 1}, bending_of, 3, TENT)
        self.refuses(NoSmooth, {"number": 2}, bending_of, 3, late)
        self.refuses(NoSmooth, {"number": 3}, bending_of, 3, later)
        self.refuses(NoSmooth, {"number": 2}, pairing_of, 3, late, later)
        self.refuses(NoSmooth, {"number": 3}, pairing_of, 3, later, late)
        self.refuses(NoSmooth, {"number": 3}, pairing_of, 3, later, TENT)
        self.refuses(NoSmooth, {"number": 3}, pairing_of, 3, plain, later)
        self.refuses(NoSmooth, {"number": 1}, pairing_of, 3, TENT, plain)
        self.told(bending_of, 1, late)
        self.told(pairing_of, 1, late, later)

    def test_smooth_of_one_is_enough(self):
        some = (fs(-1, 0, 1), ((), fs(0, 0, 1)))
        self.tells((4, 1), bending_of, 3, some)


if __name__ == "__main__":
    unittest.main()
