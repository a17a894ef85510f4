"""FRACTIONs: [10], [2], [3]."""

import random
import unittest

from gentlebends.errors import NoOver
from gentlebends.fractions import (
    fraction_of, greatest_of, is_below, is_fraction, least_of, minus_by, over_by, plus_by, sign_of, times_by,
)
from helpers import Asking, deep_thing, f, fraction, lucas_pair, q, spoiled, whole


class IsFraction(Asking, unittest.TestCase):

    def test_fractions(self):
        for thing in ((0, 1), (1, 1), (-1, 1), (3, 2), (-7, 12), (10 ** 29 + 1, 10 ** 29), (2, 3)):
            self.tells(True, is_fraction, thing)

    def test_not_lowest(self):
        for thing in ((0, 2), (2, 2), (2, 4), (-3, 9), (10 ** 30, 10 ** 29), (6, 3), (0, 10 ** 50)):
            self.tells(False, is_fraction, thing)

    def test_below_from_one_on(self):
        for thing in ((1, 0), (0, 0), (1, -1), (0, -1), (-1, -2), (1, -(10 ** 40))):
            self.tells(False, is_fraction, thing)

    def test_other_kinds(self):
        things = [
            True, False, None, 0, 1, "", "1/2", [], (), {}, [1, 2], (1,), (1, 2, 3), (True, 1), (False, 1), (1, True),
            (0, True), ("1", 2), (1, "2"), (None, 1), (1, None), ((1,), 2), (1, [2]), {0: 1, 1: 2}, "ab", ((1, 2),),
            [(1, 2)], ((1, 2), (1, 2)), deep_thing(), [0] * 1990,
        ]
        for thing in things:
            self.tells(False, is_fraction, thing)
        for path, thing in spoiled((5, 7)):
            self.tells(False, is_fraction, thing)

    def test_thousands_of_figures(self):
        a, b = lucas_pair(3990)
        self.tells(True, is_fraction, (a, b))
        self.tells(True, is_fraction, (-b, a))
        self.tells(True, is_fraction, (10 ** 3999, 10 ** 3999 + 1))
        self.tells(True, is_fraction, (10 ** 3999, 3 ** 8000))
        self.tells(False, is_fraction, (10 ** 3999, 10 ** 3999 + 2))
        self.tells(False, is_fraction, (0, 10 ** 3999))
        self.tells(False, is_fraction, (10 ** 3999, 0))
        a, b = lucas_pair(1990)
        by = 10 ** 1990 + 7
        self.tells(False, is_fraction, (a * by, b * by))
        self.tells(False, is_fraction, (a * 3, b * 3))


class Arithmetic(Asking, unittest.TestCase):

    def test_fraction_of(self):
        chance = random.Random(10)
        for time in range(300):
            n, d = whole(chance, 30), whole(chance, 30)
            if d:
                self.tells(f(n, d), fraction_of, n, d)
        for n, d, due in ((0, 5, (0, 1)), (0, -5, (0, 1)), (6, 4, (3, 2)), (-6, 4, (-3, 2)), (6, -4, (-3, 2)),
                          (-6, -4, (3, 2)), (7, 1, (7, 1)), (7, -1, (-7, 1)), (5, 5, (1, 1))):
            self.tells(due, fraction_of, n, d)

    def test_fraction_over_nought(self):
        for n in (0, 1, -1, 10 ** 29):
            self.refuses(NoOver, {}, fraction_of, n, 0)

    def test_two_fractions(self):
        chance = random.Random(11)
        for time in range(400):
            figures = chance.choice((1, 2, 30))
            a, b = fraction(chance, figures), fraction(chance, figures)
            if chance.random() < 0.1:
                b = f(-q(a)) if chance.random() < 0.5 else a
            self.tells(f(q(a) + q(b)), plus_by, a, b)
            self.tells(f(q(a) - q(b)), minus_by, a, b)
            self.tells(f(q(a) * q(b)), times_by, a, b)
            self.tells(q(a) < q(b), is_below, a, b)
            if b[0]:
                self.tells(f(q(a) / q(b)), over_by, a, b)

    def test_with_nought(self):
        nought = (0, 1)
        for one in ((0, 1), (3, 7), (-3, 7), (5, 1)):
            self.tells(one, plus_by, one, nought)
            self.tells(one, plus_by, nought, one)
            self.tells(nought, minus_by, one, one)
            self.tells(nought, times_by, one, nought)
            self.tells(nought, times_by, nought, one)
            self.refuses(NoOver, {}, over_by, one, nought)
        self.tells(nought, over_by, nought, (-3, 7))

    def test_told_ones_handed_in_again(self):
        a, b = (3, 7), (-5, 11)
        for time in range(9):
            a, b = times_by(a, a), plus_by(times_by(b, b), a)
        self.assertTrue(is_fraction(a) and is_fraction(b))
        self.tells(f(q(a) + q(b)), plus_by, a, b)

    def test_signs(self):
        for one, due in (((0, 1), 0), ((1, 9), 1), ((-1, 9), -1), ((10 ** 29, 7), 1), ((-(10 ** 29), 7), -1)):
            self.tells(due, sign_of, one)

    def test_below_is_strict(self):
        self.tells(False, is_below, (1, 3), (1, 3))
        self.tells(True, is_below, (-1, 3), (0, 1))
        self.tells(True, is_below, (10 ** 29 - 1, 10 ** 29), (1, 1))
        self.tells(False, is_below, (1, 1), (10 ** 29 - 1, 10 ** 29))

    def test_least_and_greatest(self):
        chance = random.Random(12)
        for many in range(1, 13):
            some = [fraction(chance, chance.choice((1, 30))) for k in range(many)]
            self.tells(f(min(q(one) for one in some)), least_of, some)
            self.tells(f(max(q(one) for one in some)), greatest_of, some)
        self.tells((1, 2), least_of, [(1, 2), (1, 2)])
        self.tells((-1, 2), greatest_of, [(-1, 2)])


if __name__ == "__main__":
    unittest.main()
