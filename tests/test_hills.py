"""HILLS: [51]."""

import random
import unittest
from fractions import Fraction

from gentlebends.errors import NoKnot, NoPlace
from gentlebends.hills import hill_row, hills_at
from gentlebends.rows import is_row
from helpers import Asking, f, fs, q, row_value
from knothelpers import all_knots, own_cuts, own_hills, own_stretch, places_in


class Heights(Asking, unittest.TestCase):

    def test_by_the_words(self):
        for degree, knots in all_knots(410):
            for x in places_in(degree, knots):
                self.tells(tuple(f(height) for height in own_hills(degree, knots, x)), hills_at, degree, knots, f(x))

    def test_sum_to_one_none_below_nought(self):
        for degree, knots in all_knots(411):
            for x in places_in(degree, knots):
                heights = [q(height) for height in hills_at(degree, knots, f(x))]
                self.assertEqual(len(heights), len(knots) - 1 - degree)
                self.assertEqual(sum(heights), 1)
                self.assertGreaterEqual(min(heights), 0)
                for k, height in enumerate(heights):
                    if not q(knots[k]) <= x <= q(knots[k + degree + 1]):
                        self.assertEqual(height, 0)

    def test_known(self):
        half = Fraction(1, 2)
        self.tells(fs(half, half), hills_at, 1, fs(0, 0, 1, 1), f(half))
        self.tells(fs(1, 0), hills_at, 1, fs(0, 0, 1, 1), (0, 1))
        self.tells(fs(0, 1), hills_at, 1, fs(0, 0, 1, 1), (1, 1))
        self.tells(fs(0, 1, 0), hills_at, 1, fs(0, 1, 2, 3, 4), (2, 1))
        self.tells(fs(0, 0, 1), hills_at, 1, fs(0, 1, 2, 3, 4), (3, 1))
        self.tells(fs(half, half, 0), hills_at, 2, fs(0, 1, 2, 3, 4, 5), (2, 1))
        self.tells(fs(0, half, half), hills_at, 2, fs(0, 1, 2, 3, 4, 5), (3, 1))
        sixth = Fraction(1, 6)
        self.tells(fs(sixth, 4 * sixth, sixth, 0), hills_at, 3, fs(*range(8)), (3, 1))
        self.tells(fs(0, sixth, 4 * sixth, sixth), hills_at, 3, fs(*range(8)), (4, 1))
        self.tells(fs(1, 0, 0, 0), hills_at, 3, fs(0, 0, 0, 0, 1, 1, 1, 1), (0, 1))
        self.tells(fs(0, 0, 0, 1), hills_at, 3, fs(0, 0, 0, 0, 1, 1, 1, 1), (1, 1))
        eighth = Fraction(1, 8)
        self.tells(fs(eighth, 3 * eighth, 3 * eighth, eighth), hills_at, 3, fs(0, 0, 0, 0, 1, 1, 1, 1), f(half))

    def test_a_knot_that_stands_p_times(self):
        for p in (1, 2, 3):
            knots = fs(*[0] * (p + 1), *[1] * p, *[2] * (p + 1))
            due = [0] * (2 * p + 1)
            due[p] = 1
            self.tells(fs(*due), hills_at, p, knots, (1, 1))

    def test_outside(self):
        for degree, knots in all_knots(412, 1):
            low, high = own_stretch(degree, knots)
            tiny = Fraction(1, 10 ** 29)
            for x in (low - tiny, high + tiny, low - 1, high + 100):
                self.refuses(NoPlace, {"place": f(x)}, hills_at, degree, knots, f(x))
            for x in (low, high, low + tiny, high - tiny):
                self.assertEqual(sum(q(height) for height in hills_at(degree, knots, f(x))), 1)
        self.refuses(NoPlace, {"place": (0, 1)}, hills_at, 1, fs(0, 1, 2, 3), (0, 1))
        self.refuses(NoPlace, {"place": (3, 1)}, hills_at, 1, fs(0, 1, 2, 3), (3, 1))


class HillRows(Asking, unittest.TestCase):

    def test_by_the_words(self):
        for degree, knots in all_knots(413, 2):
            places = places_in(degree, knots)
            heights = [own_hills(degree, knots, x) for x in places]
            for k in range(len(knots) - 1 - degree):
                row = self.told(hill_row, degree, knots, k)
                self.assertTrue(is_row(row))
                self.assertEqual(row[0], own_cuts(degree, knots))
                self.assertTrue(all(len(piece) <= degree + 1 for piece in row[1]))
                for x, here in zip(places, heights):
                    self.assertEqual(row_value(row, x), here[k])

    def test_known(self):
        self.tells((fs(0, 1), (fs(1, -1),)), hill_row, 1, fs(0, 0, 1, 1), 0)
        self.tells((fs(0, 1), (fs(0, 1),)), hill_row, 1, fs(0, 0, 1, 1), 1)
        self.tells((fs(1, 2, 3), (fs(0, 1), fs(1, -1))), hill_row, 1, fs(0, 1, 2, 3, 4), 1)
        self.tells((fs(1, 2, 3), (fs(1, -1), ())), hill_row, 1, fs(0, 1, 2, 3, 4), 0)
        half = Fraction(1, 2)
        self.tells((fs(2, 3), (fs(half, -1, half),)), hill_row, 2, fs(0, 1, 2, 3, 4, 5), 0)
        self.tells((fs(2, 3), (fs(half, 1, -1),)), hill_row, 2, fs(0, 1, 2, 3, 4, 5), 1)
        self.tells((fs(0, 1), (fs(0, 0, 3, -3),)), hill_row, 3, fs(0, 0, 0, 0, 1, 1, 1, 1), 2)

    def test_no_such_hill(self):
        chance = random.Random(414)
        for degree, knots in all_knots(415, 1):
            many = len(knots) - 1 - degree
            for k in (-1, -many, many, many + 1, len(knots), 10 ** 29, -10 ** 29, many + chance.randint(0, 99)):
                self.refuses(NoKnot, {"number": k}, hill_row, degree, knots, k)


if __name__ == "__main__":
    unittest.main()
