"""Tolls and trades: [45], [46]."""

import random
import unittest
from fractions import Fraction

from gentlebends.asking import cost_of, misses_of
from gentlebends.bending import bending_of
from gentlebends.boundlists import how_many_bounds, priced_of
from gentlebends.errors import NoTask
from gentlebends.leastpapers import least_paper_of
from gentlebends.trading import toll_of, traded_by
from gentlebends.wishes import let_go
from helpers import FREE, Asking, all_tasks, bound_words, f, fs, q, replaced
from test_leastpapers import bounded_tasks, full_task

HELD = ("held", (0, 1))
BUMP = (1, None, (3, 1), (((0, 1), HELD, FREE), ((1, 1), ("least", (1, 1)), FREE), ((2, 1), HELD, FREE)))
FIVE = (3, None, (1, 1), tuple(((k, 1), HELD, ("least", (k - 2, 1))) for k in range(5)))


class Tolls(Asking, unittest.TestCase):

    def test_by_chance(self):
        above = 0
        for figures in (1, 2):
            for some in bounded_tasks(310 + figures, 3, (2, 3, 4), figures):
                paper = least_paper_of(some)
                priced = priced_of(some, paper)
                for i in range(how_many_bounds(some)):
                    toll = self.told(toll_of, some, i)
                    loose = let_go(some, i)
                    due = q(cost_of(some, paper[1])) - q(cost_of(loose, least_paper_of(loose)[1]))
                    self.assertEqual(toll, f(due))
                    self.assertGreaterEqual(due, 0)
                    self.assertEqual(due > 0, i in priced)
                    above += i in priced
        self.assertGreater(above, 30)

    def test_great_numbers(self):
        some = full_task(random.Random(313), 3, True, 30)
        priced = priced_of(some, least_paper_of(some))
        for i in (0, 3):
            self.assertEqual(toll_of(some, i)[0] > 0, i in priced)

    def test_by_hand(self):
        self.tells((6, 1), toll_of, BUMP, 0)
        self.tells((0, 1), toll_of, replaced(BUMP, (3, 1, 1), ("least", (-1, 1))), 0)
        self.tells((0, 1), toll_of, replaced(BUMP, (3, 1, 1), ("least", (0, 1))), 0)
        self.tells((6, 1), toll_of, replaced(BUMP, (3, 1, 1), ("most", (-1, 1))), 0)

    def test_no_such_bound(self):
        for i in (-1, 1, 2, 10 ** 29, -10 ** 29):
            self.refuses(NoTask, {"word": "bound", "number": i}, toll_of, BUMP, i)
        none = replaced(BUMP, (3, 1, 1), FREE)
        self.refuses(NoTask, {"word": "bound", "number": 0}, toll_of, none, 0)

    def test_too_many_bounds_come_first(self):
        for i in (-1, 0, 4, 5, 10 ** 29):
            self.refuses(NoTask, {"word": "bounds", "number": 4}, toll_of, FIVE, i)
        some = replaced(FIVE, (3, 1, 1), ("most", (5, 1)))
        self.refuses(NoTask, {"word": "bounds", "number": 3}, toll_of, some, 9)
        four = replaced(FIVE, (3, 0, 2), FREE)
        self.refuses(NoTask, {"word": "bound", "number": 4}, toll_of, four, 4)
        self.assertGreaterEqual(toll_of(four, 3)[0], 0)


class Trades(Asking, unittest.TestCase):

    def factors(self, chance):
        return [f(chance.randint(1, 99), chance.randint(1, 12)) for k in range(chance.randint(1, 4))]

    def test_by_chance(self):
        chance = random.Random(314)
        for figures in (1, 2, 12):
            for some in bounded_tasks(315 + figures, 2, (2, 3, 5), figures):
                factors = self.factors(chance)
                pairs = self.told(traded_by, some, factors)
                self.assertEqual(len(pairs), len(factors))
                for factor, pair in zip(factors, pairs):
                    other = (*some[:2], f(q(some[2]) * q(factor)), some[3])
                    row = least_paper_of(other)[1]
                    self.assertEqual(pair, (bending_of(some[0], row), misses_of(some, row)))
                    self.assertIs(type(pair), tuple)
                self.look_at(some, factors, pairs)
                self.tells(pairs, traded_by, some, tuple(factors))

    def look_at(self, some, factors, pairs):
        """What [46] says in brackets."""
        order = sorted(range(len(factors)), key=lambda k: q(factors[k]))
        for a, b in zip(order, order[1:]):
            self.assertGreaterEqual(q(pairs[a][0]), q(pairs[b][0]))
            self.assertLessEqual(q(pairs[a][1]), q(pairs[b][1]))
        for factor, own in zip(factors, pairs):
            price = q(some[2]) * q(factor)
            costs = [price * q(bending) + q(misses) for bending, misses in pairs]
            self.assertEqual(price * q(own[0]) + q(own[1]), min(costs))

    def test_by_hand(self):
        # From a held 0 to a near 2 of weight 1, 1 apart: by price p the value is 2 / (1 + p).
        some = (1, None, (1, 2), (((0, 1), HELD, FREE), ((1, 1), ("near", (2, 1), (1, 1)), FREE)))
        due = [(f(Fraction(2, 1 + p) ** 2), f((2 - Fraction(2, 1 + p)) ** 2)) for p in (Fraction(1, 2), 1, Fraction(1, 24))]
        self.tells(due, traded_by, some, [(1, 1), (2, 1), (1, 12)])
        self.tells(due[:1], traded_by, some, ((1, 1),))
        self.tells([due[1]] * 4, traded_by, some, [(2, 1)] * 4)

    def test_no_near_wish(self):
        self.tells([fs(2, 0), fs(2, 0)], traded_by, BUMP, [(1, 7), (99, 1)])

    def test_great_numbers(self):
        some = full_task(random.Random(319), 1, False, 30)
        factors = [(99, 1), (1, 12), (7, 5)]
        self.look_at(some, factors, traded_by(some, factors))

    def test_too_many_bounds(self):
        for factors in ([(1, 1)], ((1, 1), (2, 1))):
            self.refuses(NoTask, {"word": "bounds", "number": 4}, traded_by, FIVE, factors)
        for some in all_tasks(320, 2, (6,), 2, ("held", "least", "most")):
            if len(bound_words(some)) > 4:
                fifth = [k for k, point in enumerate(some[3]) for wish in point[1:] if wish[0] in ("least", "most")][4]
                self.refuses(NoTask, {"word": "bounds", "number": fifth}, traded_by, some, [(1, 1)])
                self.refuses(NoTask, {"word": "bounds", "number": fifth}, toll_of, some, 0)


if __name__ == "__main__":
    unittest.main()
