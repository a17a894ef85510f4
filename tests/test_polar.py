"""The POLAR of a POLY: [54]."""

import itertools
import random
import unittest

from gentlebends.hills import hill_row
from gentlebends.polar import polar_at
from gentlebends.polys import moved_poly
from gentlebends.shares import row_of_shares, shares_of_row
from helpers import Asking, f, fraction, fs, poly, poly_value, q
from knothelpers import all_knots, own_polar, some_shares


class Polars(Asking, unittest.TestCase):

    def each(self, seed, figures=(1, 2, 6)):
        chance = random.Random(seed)
        for size in figures:
            for degree in (1, 2, 3):
                for time in range(20):
                    some = poly(chance, size, chance.randint(0, degree + 1))
                    yield degree, some, tuple(fraction(chance, size) for k in range(degree)), chance

    def test_by_the_words(self):
        for degree, some, places, chance in self.each(420):
            due = own_polar(degree, [q(number) for number in some], [q(place) for place in places])
            self.tells(f(due), polar_at, degree, some, places)

    def test_order_is_nothing(self):
        for degree, some, places, chance in self.each(421):
            told = {polar_at(degree, some, order) for order in itertools.permutations(places)}
            self.assertEqual(len(told), 1)

    def test_straight_in_each_place(self):
        for degree, some, places, chance in self.each(422):
            for k in range(degree):
                low, high, part = [q(fraction(chance)) for time in range(3)]

                def polar(x):
                    return q(polar_at(degree, some, (*places[:k], f(x), *places[k + 1:])))
                self.assertEqual(polar(low + (high - low) * part), polar(low) + (polar(high) - polar(low)) * part)

    def test_value_at_one_place(self):
        for degree, some, places, chance in self.each(423):
            self.tells(f(poly_value(some, q(places[0]))), polar_at, degree, some, (places[0],) * degree)

    def test_known(self):
        self.tells((0, 1), polar_at, 1, (), fs(5))
        self.tells((7, 1), polar_at, 3, fs(7), fs(1, 2, 3))
        self.tells((7, 1), polar_at, 1, fs(1, 2), fs(3))
        self.tells((5, 2), polar_at, 2, fs(0, 1), fs(2, 3))
        self.tells((6, 1), polar_at, 2, fs(0, 0, 1), fs(2, 3))
        self.tells((2, 1), polar_at, 3, fs(0, 1), fs(1, 2, 3))
        self.tells((11, 3), polar_at, 3, fs(0, 0, 1), fs(1, 2, 3))
        self.tells((6, 1), polar_at, 3, fs(0, 0, 0, 1), fs(1, 2, 3))

    def test_shares_are_polars_on_any_span(self):
        chance = random.Random(424)
        for degree, knots in all_knots(425, 2):
            shares = some_shares(chance, degree, knots)
            row = row_of_shares(degree, knots, shares)
            self.assertEqual(shares_of_row(degree, knots, row), shares)
            for k, share in enumerate(shares):
                looked = 0
                for cut, piece in zip(row[0], row[1]):
                    # The span behind the cut has to lie between knot k and knot k + p + 1.
                    if q(knots[k]) <= q(cut) < q(knots[k + degree + 1]):
                        own = moved_poly(piece, f(-q(cut)))
                        self.assertEqual(polar_at(degree, own, knots[k + 1:k + degree + 1]), share)
                        looked += 1
                self.assertGreater(looked, 0)

    def test_hills_have_one_share(self):
        for degree, knots in all_knots(426, 1):
            many = len(knots) - 1 - degree
            for k in range(many):
                due = fs(*[int(j == k) for j in range(many)])
                self.tells(due, shares_of_row, degree, knots, hill_row(degree, knots, k))


if __name__ == "__main__":
    unittest.main()
