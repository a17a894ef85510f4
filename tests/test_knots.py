"""KNOTS: [50]."""

import random
import unittest

from gentlebends.errors import NoKnots
from gentlebends.knots import ask_knots
from helpers import ODD_THINGS, Asking, deep_thing, f, fs, lucas_pair, q, replaced, spoiled
from knothelpers import all_knots, knot, own_fault


class Knots(Asking, unittest.TestCase):

    def no_knots(self, word, number, degree, thing):
        self.refuses(NoKnots, {"word": word, "number": number}, ask_knots, degree, thing)

    def test_right(self):
        for degree, knots in all_knots(400):
            self.tells(True, ask_knots, degree, knots)
        for degree in (1, 2, 3):
            ends = fs(*[0] * (degree + 1), *[1] * (degree + 1))
            self.tells(True, ask_knots, degree, ends)
            self.tells(True, ask_knots, degree, fs(*range(2 * degree + 2)))
            often = fs(*[0] * (degree + 1), *[1] * degree, *[2] * degree, *[3] * (degree + 1))
            self.tells(True, ask_knots, degree, often)

    def test_shape_of_odd_things(self):
        for degree in (1, 2, 3):
            for thing in (*ODD_THINGS, deep_thing()):
                self.no_knots("shape", -1, degree, thing)
            right = fs(*range(2 * degree + 2))
            for thing in (right[:-1], list(right), dict(enumerate(right)), tuple(range(2 * degree + 2)), right[:1],
                          (*right, None), (*right, (2, 2)), (*right, [99, 1]), ((0, 2), *right[1:]), (right,)):
                self.no_knots("shape", -1, degree, thing)

    def test_one_wrong_kind_anywhere(self):
        for degree in (1, 2, 3):
            right = fs(*range(2 * degree + 2))
            for path, thing in spoiled(right):
                if path == () and isinstance(thing, tuple) and len(thing) > len(right):
                    continue
                self.no_knots("shape", -1, degree, thing)

    def test_falls(self):
        for degree in (1, 2, 3):
            right = fs(*range(2 * degree + 4))
            for k in range(1, len(right)):
                lower = f(q(right[k - 1]) * 10 ** 29 - 1, 10 ** 29)
                self.no_knots("falls", k, degree, replaced(right, (k,), lower))
                self.no_knots("falls", k, degree, (*right[:k], *fs(-1, -2), *right[k:]))
            self.no_knots("falls", 1, degree, right[::-1])
            self.no_knots("falls", len(right), degree, (*right, (-1, 1)))

    def test_falls_ahead_of_ends(self):
        for degree in (1, 2, 3):
            self.no_knots("falls", 2 * degree + 2, degree, fs(*[5] * (2 * degree + 2), 4))

    def test_ends(self):
        for degree in (1, 2, 3):
            p = degree
            self.no_knots("ends", p, p, fs(*[0] * (2 * p + 2)))
            self.no_knots("ends", p, p, fs(*[0] * (p + 2), *[1] * (p + 1)))
            self.no_knots("ends", p, p, fs(*range(p), *[50] * 2, *range(51, 51 + p + 2)))
            first = fs(*[0] * (p + 1), *[1] * (p + 2))
            self.no_knots("ends", len(first) - 1 - p, p, first)
            self.no_knots("ends", p + 2, p, fs(*range(p + 1), *[50] * 2, *range(51, 51 + p)))
            both = fs(*[0] * (p + 2), *[1] * (p + 2))
            self.no_knots("ends", p, p, both)

    def test_ends_ahead_of_often(self):
        for p in (1, 2, 3):
            inner = [1] * (p + 1)
            self.no_knots("ends", p, p, fs(*[0] * (p + 2), *inner, *[2] * (p + 1)))
            knots = fs(*[0] * (p + 1), *inner, *[2] * (p + 2))
            self.no_knots("ends", len(knots) - 1 - p, p, knots)

    def test_often(self):
        for p in (1, 2, 3):
            ends = [0] * (p + 1), [9] * (p + 1)
            for many in (p + 1, p + 2):
                self.no_knots("often", p + 1, p, fs(*ends[0], *[1] * many, *ends[1]))
                self.no_knots("often", p + 2, p, fs(*ends[0], 1, *[2] * many, 3, *ends[1]))
                self.no_knots("often", p + 1, p, fs(*ends[0], *[1] * many, *[2] * many, *ends[1]))
                self.no_knots("often", 2 * p + 1, p, fs(*ends[0], *[1] * p, *[2] * many, *ends[1]))
            # Outside of the stretch alike knots may stand p times, and its ends p + 1 times.
            self.tells(True, ask_knots, p, fs(*[-5] * p, 0, 1, *[6] * p))
            self.tells(True, ask_knots, p, fs(*[0] * (p + 1), 1, *[2] * (p + 1)))

    def test_by_chance(self):
        chance = random.Random(401)
        words = {}
        for time in range(6000):
            degree = chance.choice((1, 2, 3))
            few = [knot(chance) for k in range(chance.randint(2, 5))]
            knots = [chance.choice(few) for k in range(chance.randint(2 * degree + 2, 12))]
            if chance.random() < 0.9:
                knots.sort(key=q)
            due = own_fault(degree, knots)
            words[due and due[0]] = words.get(due and due[0], 0) + 1
            if due is None:
                self.tells(True, ask_knots, degree, tuple(knots))
            else:
                self.no_knots(due[0], due[1], degree, tuple(knots))
        self.assertGreater(min(words[word] for word in (None, "falls", "ends", "often")), 50)

    def test_thousands_of_figures(self):
        a, b = lucas_pair(3990)
        self.tells(True, ask_knots, 1, ((-b, a), (-a, b), (a, b), (b, a)))
        self.no_knots("falls", 2, 1, ((-b, a), (b, a), (a, b), (b, a)))
        self.no_knots("shape", -1, 1, ((-b, a), (-a, b), (3 * a, 3 * b), (b, a)))

    def test_many_knots(self):
        knots = tuple((k, 1) for k in range(600))
        for degree in (1, 2, 3):
            self.tells(True, ask_knots, degree, knots)
            self.no_knots("shape", -1, degree, (*knots[:-1], 599))


if __name__ == "__main__":
    unittest.main()
