"""Wishes turned: [43], and what follows: [44]."""

import random
import unittest

from gentlebends.asking import ask_task, cost_of
from gentlebends.boundlists import binding_of, bounds_of, how_many_bounds, priced_of
from gentlebends.errors import NoTask
from gentlebends.leastchecker import lets_least
from gentlebends.leastpapers import least_paper_of
from gentlebends.pulling import pulls_of
from gentlebends.wishes import held_fast, let_go, wish_moved
from helpers import FREE, Asking, all_tasks, f, fraction, q, replaced
from test_leastpapers import bounded_tasks

SOME = (3, None, (1, 1), (
    ((0, 1), ("held", (1, 2)), ("least", (-3, 1))),
    ((1, 1), ("near", (2, 1), (5, 3)), FREE),
    ((2, 1), ("most", (4, 1)), ("held", (7, 1))),
    ((3, 1), FREE, ("most", (0, 1))),
    ((4, 1), ("least", (6, 1)), FREE),
))


class Turned(Asking, unittest.TestCase):

    def test_let_go(self):
        for i, path in enumerate(((3, 0, 2), (3, 2, 1), (3, 3, 2), (3, 4, 1))):
            self.tells(replaced(SOME, path, FREE), let_go, SOME, i)

    def test_held_fast(self):
        for i, (path, number) in enumerate((((3, 0, 2), (-3, 1)), ((3, 2, 1), (4, 1)), ((3, 3, 2), (0, 1)), ((3, 4, 1), (6, 1)))):
            self.tells(replaced(SOME, path, ("held", number)), held_fast, SOME, i)

    def test_by_chance(self):
        for figures in (1, 30):
            for some in all_tasks(290 + figures, 2, (2, 4, 6), figures):
                for i, (k, which, word, number) in enumerate(bounds_of(some)):
                    path = (3, k, 1 + which)
                    self.tells(replaced(some, path, FREE), let_go, some, i)
                    self.tells(replaced(some, path, ("held", number)), held_fast, some, i)
                    self.tells(True, ask_task, let_go(some, i))
                    self.tells(True, ask_task, held_fast(some, i))

    def test_no_such_bound(self):
        none = (1, None, (1, 1), tuple(((k, 1), ("held", (0, 1)), FREE) for k in range(2)))
        for ask in (let_go, held_fast):
            for i in (-1, -2, -4, 4, 5, 10 ** 29, -10 ** 29):
                self.refuses(NoTask, {"word": "bound", "number": i}, ask, SOME, i)
            for i in (-1, 0, 1):
                self.refuses(NoTask, {"word": "bound", "number": i}, ask, none, i)

    def test_moved(self):
        number = (10 ** 30 - 1, 10 ** 29)
        for k, which, wish in ((0, 0, ("held", number)), (0, 1, ("least", number)), (1, 0, ("near", number, (5, 3))),
                               (2, 0, ("most", number)), (2, 1, ("held", number)), (3, 1, ("most", number)),
                               (4, 0, ("least", number))):
            self.tells(replaced(SOME, (3, k, 1 + which), wish), wish_moved, SOME, k, which, number)

    def test_moved_to_where_it_is(self):
        for k, which in ((0, 0), (0, 1), (1, 0), (2, 0), (2, 1), (3, 1), (4, 0)):
            self.tells(SOME, wish_moved, SOME, k, which, SOME[3][k][1 + which][1])

    def test_free_wishes(self):
        for k, which in ((1, 1), (3, 0), (4, 1)):
            self.refuses(NoTask, {"word": "wish", "number": k}, wish_moved, SOME, k, which, (1, 1))
        line = (1, (9, 1), (1, 1), tuple(((k, 1), ("held", (0, 1)), FREE) for k in range(3)))
        for k in range(3):
            self.refuses(NoTask, {"word": "wish", "number": k}, wish_moved, line, k, 1, (1, 1))
            self.tells(replaced(line, (3, k, 1), ("held", (1, 1))), wish_moved, line, k, 0, (1, 1))

    def test_no_such_point(self):
        for k in (-1, -2, -5, 5, 6, 10 ** 29, -10 ** 29):
            for which in (0, 1):
                self.refuses(NoTask, {"word": "wish", "number": k}, wish_moved, SOME, k, which, (1, 1))

    def test_moved_tasks_are_right(self):
        chance = random.Random(292)
        for some in all_tasks(293, 2):
            for k, point in enumerate(some[3]):
                for which in (0, 1):
                    if point[1 + which] != FREE:
                        number = fraction(chance, 30)
                        self.tells(True, ask_task, self.told(wish_moved, some, k, which, number))


class WhatFollows(Asking, unittest.TestCase):

    def test_papers_stay_let_by(self):
        loose = tight = 0
        for figures in (1, 2):
            for some in bounded_tasks(294 + figures, 4, (2, 3, 4), figures):
                paper = least_paper_of(some)
                priced, binding = priced_of(some, paper), binding_of(some, paper)
                for i in range(how_many_bounds(some)):
                    if i not in priced:
                        self.tells(True, lets_least, let_go(some, i), paper)
                        loose += 1
                    if i in binding:
                        self.tells(True, lets_least, held_fast(some, i), paper)
                        tight += 1
        self.assertGreater(min(loose, tight), 50)

    def test_moved_wishes_cost_no_less(self):
        chance = random.Random(297)
        for figures in (1, 2):
            for some in bounded_tasks(298 + figures, 3, (2, 3, 4), figures):
                row = least_paper_of(some)[1]
                pulls = pulls_of(some, row)
                due = q(cost_of(some, row))
                other = some
                for k, point in enumerate(some[3]):
                    for which in (0, 1):
                        wish = point[1 + which]
                        if wish != FREE and chance.random() < 0.6:
                            number = f(q(wish[1]) + q(fraction(chance)) / chance.choice((1, 50)))
                            due += 2 * q(some[2]) * q(pulls[k][which]) * (q(number) - q(wish[1]))
                            other = wish_moved(other, k, which, number)
                self.assertGreaterEqual(q(cost_of(other, least_paper_of(other)[1])), due)

    def test_one_moved_bound_by_hand(self):
        # From 0 over at least y to 0, 1 apart: the cost is 2 y ** 2, the pull 2 y.
        points = (((0, 1), ("held", (0, 1)), FREE), ((1, 1), ("least", (1, 1)), FREE), ((2, 1), ("held", (0, 1)), FREE))
        some = (1, None, (1, 1), points)
        for z in (-3, 0, 1, 2, 9):
            other = wish_moved(some, 1, 0, (z, 1))
            self.tells((2 * max(z, 0) ** 2, 1), cost_of, other, least_paper_of(other)[1])
            self.assertGreaterEqual(2 * max(z, 0) ** 2, 2 + 2 * 2 * (z - 1))


if __name__ == "__main__":
    unittest.main()
