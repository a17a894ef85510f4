"""POLYs: [12], [13], [14]."""

import random
import unittest
from fractions import Fraction

from gentlebends.polys import (
    is_poly, mirrored_poly, moved_poly, poly_of, poly_scaled, poly_sum, poly_times, slope_of, under_poly,
    under_product, value_of,
)
from helpers import ODD_THINGS, Asking, deep_thing, f, fraction, fs, lucas_pair, poly, poly_value, q, spoiled, trimmed


def under(numbers, low, high):
    """The sum beneath by the words of [14], numbers Python's own."""
    return f(sum((c * (high ** (k + 1) - low ** (k + 1)) / (k + 1) for k, c in enumerate(numbers)), Fraction(0)))


def product(one, other):
    numbers = [Fraction(0)] * 7
    for j, a in enumerate(one):
        for k, b in enumerate(other):
            numbers[j + k] += q(a) * q(b)
    return numbers


class IsPoly(Asking, unittest.TestCase):

    def test_polys(self):
        for thing in ((), fs(1), fs(0, 1), fs(0, 0, 0, -5), ((1, 2), (0, 1), (3, 4), (-7, 12))):
            self.tells(True, is_poly, thing)

    def test_nought_at_the_end(self):
        for thing in (fs(0), fs(1, 0), fs(0, 0, 0, 0), fs(1, 2, 3, 0)):
            self.tells(False, is_poly, thing)

    def test_more_than_four(self):
        self.tells(False, is_poly, fs(1, 2, 3, 4, 5))
        self.tells(False, is_poly, ((1, 1),) * 600)

    def test_other_kinds(self):
        for thing in ODD_THINGS:
            self.tells(same_as_words(thing), is_poly, thing)
        for thing in ([], [(1, 1)], [(1, 2), (1, 1)], ((1, 1), [1, 1]), ((True, 1),), ((1, True),), ((2, 4), (1, 1)),
                      ((0, 2), (1, 1)), ((1, 1), None), ((1, 1), 1), (1, 1), (1, 2), "", {}, deep_thing()):
            self.tells(False, is_poly, thing)
        for path, thing in spoiled(((1, 2), (3, 4))):
            due = len(path) == 0 and isinstance(thing, tuple)
            self.tells(due, is_poly, thing)

    def test_thousands_of_figures(self):
        a, b = lucas_pair(3990)
        self.tells(True, is_poly, ((a, b), (-b, a), (a, 1), (1, b)))
        self.tells(False, is_poly, ((a, b), (2 * a, 2 * b)))

    def test_poly_of(self):
        for numbers, due in (([], ()), ([(0, 1)], ()), ([(0, 1)] * 4, ()), ([(1, 2), (0, 1)], ((1, 2),)),
                             ([(0, 1), (0, 1), (-1, 3), (0, 1)], fs(0, 0, Fraction(-1, 3))),
                             ([(1, 1), (2, 1), (3, 1), (4, 1)], fs(1, 2, 3, 4))):
            self.tells(due, poly_of, numbers)

    def test_poly_of_keeps_a_copy(self):
        numbers = [(1, 2), (3, 4)]
        made = poly_of(numbers)
        numbers[0] = (9, 1)
        numbers.append((1, 1))
        self.assertEqual(made, ((1, 2), (3, 4)))


def same_as_words(thing):
    """Whether one of the odd things is a POLY: few are."""
    return type(thing) is tuple and thing in ((), ((1, 1),), ((1, 1), (1, 1)))


class Deeds(Asking, unittest.TestCase):

    def polys(self, seed, times=150):
        chance = random.Random(seed)
        for time in range(times):
            figures = chance.choice((1, 2, 12))
            yield chance, figures, poly(chance, figures), poly(chance, figures)

    def test_sum(self):
        for chance, figures, one, other in self.polys(30):
            if chance.random() < 0.3:
                other = trimmed([-q(c) if k > 1 else q(fraction(chance, figures)) for k, c in enumerate(one)])
            many = max(len(one), len(other))
            own = [sum((q(p[k]) for p in (one, other) if k < len(p)), Fraction(0)) for k in range(many)]
            self.tells(trimmed(own), poly_sum, one, other)
        self.tells((), poly_sum, fs(1, 2, 3, 4), fs(-1, -2, -3, -4))
        self.tells(fs(5), poly_sum, fs(4, 2, 3, 4), fs(1, -2, -3, -4))
        self.tells((), poly_sum, (), ())

    def test_scaled(self):
        for chance, figures, one, other in self.polys(31):
            by = fraction(chance, figures)
            self.tells(trimmed([q(c) * q(by) for c in one]), poly_scaled, one, by)
        self.tells((), poly_scaled, fs(1, 2, 3, 4), (0, 1))
        self.tells((), poly_scaled, (), (5, 1))

    def test_times(self):
        for chance, figures, one, other in self.polys(32):
            if len(one) and len(other):
                other = trimmed([q(c) for c in other[:5 - len(one)]])
            self.tells(trimmed(product(one, other)[:4]), poly_times, one, other)
        self.tells(fs(-1, 0, 1), poly_times, fs(1, 1), fs(-1, 1))
        self.tells((), poly_times, (), fs(1, 2, 3, 4))
        self.tells((), poly_times, fs(1, 2, 3, 4), ())
        self.tells(fs(2, 4, 6, 8), poly_times, fs(2), fs(1, 2, 3, 4))

    def test_value(self):
        for chance, figures, one, other in self.polys(33):
            t = fraction(chance, figures)
            self.tells(f(poly_value(one, q(t))), value_of, one, t)
            self.tells(f(poly_value(one, 0)), value_of, one, (0, 1))
        self.tells((0, 1), value_of, (), (5, 3))
        self.tells((0, 1), value_of, (), (0, 1))
        self.tells((-7, 2), value_of, ((-7, 2), (1, 1)), (0, 1))

    def test_slope(self):
        for chance, figures, one, other in self.polys(34):
            self.tells(trimmed([k * q(c) for k, c in enumerate(one)][1:]), slope_of, one)
        self.tells((), slope_of, ())
        self.tells((), slope_of, fs(7))
        self.tells(fs(2, 6, 12), slope_of, fs(1, 2, 3, 4))

    def test_moved_and_mirrored(self):
        for chance, figures, one, other in self.polys(35):
            a = chance.choice((fraction(chance, figures), (0, 1)))
            moved = self.told(moved_poly, one, a)
            mirrored = self.told(mirrored_poly, one)
            self.assertTrue(is_poly(moved) and is_poly(mirrored))
            for t in range(-2, 4):
                self.assertEqual(poly_value(moved, Fraction(t)), poly_value(one, t + q(a)))
                self.assertEqual(poly_value(mirrored, Fraction(t)), poly_value(one, Fraction(-t)))
        self.tells((), moved_poly, (), (3, 1))
        self.tells((), mirrored_poly, ())
        self.tells(fs(1, -2, 3, -4), mirrored_poly, fs(1, 2, 3, 4))
        self.tells(fs(8, 12, 6, 1), moved_poly, fs(0, 0, 0, 1), (2, 1))

    def test_under(self):
        for chance, figures, one, other in self.polys(36):
            low, high = fraction(chance, figures), fraction(chance, figures)
            self.tells(under([q(c) for c in one], q(low), q(high)), under_poly, one, low, high)
            back = self.told(under_poly, one, high, low)
            self.assertEqual(q(back), -q(under_poly(one, low, high)))
            self.tells((0, 1), under_poly, one, low, low)

    def test_under_product(self):
        for chance, figures, one, other in self.polys(37):
            low, high = fraction(chance, figures), fraction(chance, figures)
            due = under(product(one, other), q(low), q(high))
            self.tells(due, under_product, one, other, low, high)
            self.tells(due, under_product, other, one, low, high)
            self.tells(f(-q(due)), under_product, one, other, high, low)
        self.tells((0, 1), under_product, (), fs(1, 2, 3, 4), (0, 1), (1, 1))
        self.tells((1, 7), under_product, fs(0, 0, 0, 1), fs(0, 0, 0, 1), (0, 1), (1, 1))
        self.tells((2, 7), under_product, fs(0, 0, 0, 1), fs(0, 0, 0, 1), (-1, 1), (1, 1))


if __name__ == "__main__":
    unittest.main()
