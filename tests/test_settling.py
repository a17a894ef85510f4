"""SETTLED rows: [34], and with the checker [31], [32], [4]."""

import random
import unittest
from fractions import Fraction

from gentlebends.asking import ask_task, cost_of, fault_of
from gentlebends.bending import bending_of
from gentlebends.errors import NoPaper
from gentlebends.leastchecker import lets_least
from gentlebends.pulling import prices_of
from gentlebends.rows import is_row, smooth_of
from gentlebends.rowsums import row_sum
from gentlebends.settling import settled_by
from helpers import FREE, Asking, all_tasks, bound_words, f, fs, hermite_row, own_places, q, row_value, spread, subsets
from test_pulling import row_slope


def with_few_bounds(some, most):
    """A TASK with its bounds beyond the first few let go."""
    left = most
    points = []
    for place, *wishes in some[3]:
        new = []
        for wish in wishes:
            if wish[0] in ("least", "most"):
                new.append(wish if left > 0 else FREE)
                left -= 1
            else:
                new.append(wish)
        points.append((place, *new))
    return (*some[:3], tuple(points))


def keeping_change(chance, some):
    """A ROW h such that a ROW that keeps the TASK keeps it with h added, too."""
    places = own_places(some)
    wishes = {q(point[0]): point[1:] for point in some[3]}
    inner = chance.sample(spread(places[0], places[-1], 17)[1:-1], 3)
    cuts = sorted({*inner, *[q(place) for place in places]})

    def change(wish):
        size = Fraction(chance.randint(-9, 9), chance.randint(1, 9))
        return {"held": Fraction(0), "least": abs(size), "most": -abs(size)}.get(wish[0], size)
    values = [change(wishes.get(cut, (FREE, FREE))[0]) for cut in cuts]
    slopes = [change(wishes.get(cut, (FREE, FREE))[1]) for cut in cuts]
    if some[1] is not None:
        values[-1], slopes[-1] = values[0], slopes[0]
    return hermite_row([f(cut) for cut in cuts], values, slopes)


class Settled(Asking, unittest.TestCase):

    def look_at(self, some, tight, paper):
        """Whether a paper is what [34] says."""
        word, row, prices = paper
        self.assertEqual(word, "least")
        self.assertTrue(is_row(row))
        self.assertEqual(row[0], own_places(some))
        if some[0] == 1:
            self.assertTrue(all(len(piece) <= 2 for piece in row[1]))
        elif len(row[1]) > 1:
            self.assertGreaterEqual(smooth_of(row), 1)
        if some[1] is not None:
            begin, end = q(row[0][0]), q(row[0][-1])
            self.assertEqual(row_value(row, begin), row_value(row, end))
            if some[0] == 3:
                self.assertEqual(row_slope(row, begin), row_slope(row, end))
        self.assertEqual(prices, prices_of(some, row))
        number = 0
        for (place, *wishes), pair in zip(some[3], prices):
            has = (row_value(row, q(place)), row_slope(row, q(place)))
            for wish, price, here in zip(wishes, pair, has):
                is_bound = wish[0] in ("least", "most")
                if wish[0] == "held" or (is_bound and number in tight):
                    self.assertEqual(here, q(wish[1]))
                else:
                    self.assertEqual(price, (0, 1))
                number += is_bound

    def test_by_the_words(self):
        chance = random.Random(110)
        for some in all_tasks(111, 4):
            many = len(bound_words(some))
            for size in sorted({0, many // 2, many}):
                tight = tuple(sorted(chance.sample(range(many), size)))
                self.look_at(some, tight, self.told(settled_by, some, tight))

    def test_great_numbers(self):
        chance = random.Random(112)
        for some in all_tasks(113, 1, (2, 6), 30):
            many = len(bound_words(some))
            tight = tuple(sorted(chance.sample(range(many), many // 2)))
            paper = settled_by(some, tight)
            self.look_at(some, tight, paper)

    def test_let_by_without_bounds(self):
        for figures in (1, 2, 30):
            for some in all_tasks(114 + figures, 2, (2, 3, 5), figures, ("held", "near", "free")):
                self.tells(True, lets_least, some, settled_by(some, ()))

    def test_straight_lines(self):
        points = tuple(((k, 1), ("held", (k * k, 1)), FREE) for k in range(3))
        due = ("least", (fs(0, 1, 2), (fs(0, 1), fs(1, 3))), (fs(-2, 0), fs(-4, 0), fs(6, 0)))
        self.tells(due, settled_by, (1, None, (2, 1), points), ())
        due = ("least", (fs(0, 1, 2, 4), (fs(0, 1), fs(1, 3), fs(4, -2))), (fs(-3, 0), fs(-2, 0), fs(5, 0)))
        self.tells(due, settled_by, (1, (4, 1), (1, 1), points), ())

    def test_natural_row(self):
        points = tuple(((k, 1), ("held", (k & 1, 1)), FREE) for k in range(3))
        pieces = (fs(0, Fraction(3, 2), 0, Fraction(-1, 2)), fs(1, 0, Fraction(-3, 2), Fraction(1, 2)))
        due = ("least", (fs(0, 1, 2), pieces), (fs(-3, 0), fs(6, 0), fs(-3, 0)))
        self.tells(due, settled_by, (3, None, (1, 1), points), ())

    def test_one_value_and_a_slope(self):
        for held in (0, 1):
            points = [[(0, 1), FREE, FREE], [(2, 1), ("held", (5, 1)), FREE]]
            points[held][2] = ("held", (3, 1))
            some = (3, None, (1, 1), tuple(tuple(point) for point in points))
            self.tells(True, ask_task, some)
            self.tells(("least", (fs(0, 2), (fs(-1, 3),)), (fs(0, 0), fs(0, 0))), settled_by, some, ())

    def test_bounds_are_numbered_point_by_point(self):
        points = (((0, 1), ("least", (7, 1)), ("most", (1, 1))), ((1, 1), ("held", (0, 1)), ("least", (2, 1))),
                  ((2, 1), ("near", (3, 1), (1, 1)), ("least", (4, 1))), ((3, 1), ("most", (5, 1)), FREE))
        some = (3, None, (1, 1), points)
        asks = ((row_value, 0, 7), (row_slope, 0, 1), (row_slope, 1, 2), (row_slope, 2, 4), (row_value, 3, 5))
        for tight in subsets(5):
            paper = settled_by(some, tight)
            self.look_at(some, tight, paper)
            for number in tight:
                ask, place, due = asks[number]
                self.assertEqual(ask(paper[1], Fraction(place)), due)

    def test_just_one_paper_is_let_by(self):
        settled = 0
        for figures in (1, 2):
            for some in all_tasks(116 + figures, 4, (2, 3, 4)):
                some = with_few_bounds(some, 4)
                let_by = set()
                for tight in subsets(len(bound_words(some))):
                    paper = settled_by(some, tight)
                    if self.is_let_by(some, tight, paper):
                        let_by.add(paper)
                        settled += 1
                self.assertEqual(len(let_by), 1)
        self.assertGreater(settled, 90)

    def is_let_by(self, some, tight, paper):
        """Whether the checker lets a paper by: just where [34] says so."""
        number = 0
        keeps = True
        for (place, *wishes), pair in zip(some[3], paper[2]):
            has = (row_value(paper[1], q(place)), row_slope(paper[1], q(place)))
            for wish, price, here in zip(wishes, pair, has):
                if wish[0] in ("least", "most"):
                    side = 1 if wish[0] == "least" else -1
                    keeps = keeps and side * (here - q(wish[1])) >= 0
                    keeps = keeps and (number not in tight or side * q(price) >= 0)
                    number += 1
        if keeps:
            self.tells(True, lets_least, some, paper)
        else:
            with self.assertRaises(NoPaper) as caught:
                lets_least(some, paper)
            self.assertIn(caught.exception.word, ("value", "slope", "sign"))
        return keeps

    def test_other_rows_cost_more_by_just_so_much(self):
        chance = random.Random(120)
        for some in all_tasks(121, 2, (2, 3, 4)):
            some = with_few_bounds(some, 3)
            for tight in subsets(len(bound_words(some))):
                paper = settled_by(some, tight)
                if not self.is_let_by(some, tight, paper):
                    continue
                for time in range(3):
                    self.compare(some, paper, keeping_change(chance, some))

    def compare(self, some, paper, h):
        """Look that the row with h added costs more by just what [32] says."""
        word, row, prices = paper
        other = row_sum(row, h)
        self.tells(None, fault_of, some, other)
        more = q(some[2]) * q(bending_of(some[0], h))
        for (place, wish, slope), (a, b) in zip(some[3], prices):
            value_part, slope_part = q(a) * row_value(h, q(place)), q(b) * row_slope(h, q(place))
            self.assertGreaterEqual(min(value_part, slope_part), 0)
            more += 2 * (value_part + slope_part)
            if wish[0] == "near":
                more += q(wish[2]) * row_value(h, q(place)) ** 2
        self.assertEqual(q(cost_of(some, other)) - q(cost_of(some, row)), more)
        if any(piece for piece in h[1]):
            self.assertGreater(more, 0)

    def test_told_ones_may_be_handed_in_again(self):
        some = next(iter(all_tasks(122, 1, (4,), 30, ("near",))))
        paper = settled_by(some, ())
        value = paper[1][1][0][0]
        again = (*some[:3], ((some[3][0][0], ("held", value), FREE), *some[3][1:]))
        self.assertEqual(settled_by(again, ())[1], paper[1])


if __name__ == "__main__":
    unittest.main()
