"""The smoothest rows and the papers of tasks without bounds: [35], [36], with [31], [32], [4]."""

import random
import unittest
from fractions import Fraction

from gentlebends.asking import ask_task
from gentlebends.bending import bending_of
from gentlebends.errors import NoTask
from gentlebends.leastchecker import lets_least
from gentlebends.rows import is_row, value_at
from gentlebends.rowsums import row_scaled, row_sum
from gentlebends.smoothing import near_paper, smoothest_through
from helpers import (
    FREE, Asking, all_tasks, f, fraction, fs, own_places, poly_bends, positive, q, replaced, rising, row_value,
)
from test_settling import keeping_change


def heights_of(chance, many, figures):
    """Rising places, each with a value."""
    return tuple((place, fraction(chance, figures)) for place in rising(chance, many, figures))


def rounds_of(chance, heights, figures):
    """None, and a round that is long enough."""
    long = q(heights[-1][0]) - q(heights[0][0])
    return (None, f(long + q(positive(chance, figures))))


def held_task(sort, turn, heights):
    return (sort, turn, (1, 1), tuple((place, ("held", value), FREE) for place, value in heights))


def bends_of_ends(row):
    """For each piece the BENDS at its begin and at its end."""
    cuts, pieces = row
    return [(poly_bends(piece, 0), poly_bends(piece, q(cuts[k + 1]) - q(cuts[k]))) for k, piece in enumerate(pieces)]


class Smoothest(Asking, unittest.TestCase):

    def each(self, seed, counts=(2, 3, 4, 6), sizes=(1, 2, 30)):
        chance = random.Random(seed)
        for figures in sizes:
            for many in counts:
                heights = heights_of(chance, many, figures)
                for turn in rounds_of(chance, heights, figures):
                    for sort in (1, 3):
                        yield sort, turn, heights

    def test_let_by(self):
        for sort, turn, heights in self.each(200):
            some = held_task(sort, turn, heights)
            self.tells(True, ask_task, some)
            paper = self.told(smoothest_through, sort, turn, heights)
            self.tells(True, lets_least, some, paper)
            self.assertTrue(is_row(paper[1]))
            self.assertEqual(paper[1][0], own_places(some))
            for place, value in heights:
                self.assertEqual(row_value(paper[1], q(place)), q(value))

    def test_straight_lines(self):
        for sort, turn, heights in self.each(201):
            if sort == 1:
                row = smoothest_through(sort, turn, heights)[1]
                self.assertTrue(all(len(piece) <= 2 for piece in row[1]))
                if turn is not None:
                    self.assertEqual(value_at(row, row[0][-1]), heights[0][1])

    def test_second_bends(self):
        for sort, turn, heights in self.each(202):
            if sort == 3:
                ends = bends_of_ends(smoothest_through(sort, turn, heights)[1])
                for k in range(len(ends) - 1):
                    self.assertEqual(ends[k][1][:3], ends[k + 1][0][:3])
                if turn is None:
                    self.assertEqual((ends[0][0][2], ends[-1][1][2]), (0, 0))
                else:
                    self.assertEqual(ends[0][0][:3], ends[-1][1][:3])

    def test_other_rows_bend_more(self):
        chance = random.Random(203)
        for sort, turn, heights in self.each(204, (2, 4), (1, 2)):
            row = smoothest_through(sort, turn, heights)[1]
            for time in range(3):
                change = keeping_change(chance, held_task(sort, turn, heights))
                more = q(bending_of(sort, change))
                self.assertEqual(q(bending_of(sort, row_sum(row, change))), q(bending_of(sort, row)) + more)

    def test_known(self):
        heights = (((0, 1), (0, 1)), ((1, 1), (1, 1)), ((2, 1), (0, 1)))
        pieces = (fs(0, Fraction(3, 2), 0, Fraction(-1, 2)), fs(1, 0, Fraction(-3, 2), Fraction(1, 2)))
        self.tells(("least", (fs(0, 1, 2), pieces), (fs(-3, 0), fs(6, 0), fs(-3, 0))), smoothest_through, 3, None, heights)
        self.tells(("least", (fs(0, 1, 2), (fs(0, 1), fs(1, -1))), (fs(-1, 0), fs(2, 0), fs(-1, 0))),
                   smoothest_through, 1, None, heights)
        self.tells(("least", (fs(0, 1, 2, 4), (fs(0, 1), fs(1, -1), ())), (fs(-1, 0), fs(2, 0), fs(-1, 0))),
                   smoothest_through, 1, (4, 1), heights)
        pieces = (fs(0, 0, 3, -2), fs(1, 0, -3, 2))
        self.tells(("least", (fs(0, 1, 2), pieces), (fs(-24, 0), fs(24, 0))), smoothest_through, 3, (2, 1), heights[:2])

    def test_two_points(self):
        heights = (((-1, 2), (3, 1)), ((3, 2), (-1, 1)))
        for sort in (1, 3):
            prices = (fs(2, 0), fs(-2, 0)) if sort == 1 else (fs(0, 0), fs(0, 0))
            self.tells(("least", (fs(Fraction(-1, 2), Fraction(3, 2)), (fs(3, -2),)), prices),
                       smoothest_through, sort, None, heights)

    def test_level_heights(self):
        heights = tuple(((k, 1), (5, 7)) for k in range(6))
        for sort in (1, 3):
            for turn in (None, (6, 1), (300, 1)):
                row = smoothest_through(sort, turn, heights)[1]
                self.assertEqual(row[1], (((5, 7),),) * (5 if turn is None else 6))


class NearPapers(Asking, unittest.TestCase):

    def test_let_by(self):
        for figures in (1, 2, 30):
            for some in all_tasks(205 + figures, 2, (2, 3, 6), figures, ("held", "near", "free")):
                self.tells(True, lets_least, some, self.told(near_paper, some))

    def test_bounds_are_refused(self):
        held = ("held", (1, 1))
        points = tuple(((k, 1), held, FREE) for k in range(6))
        for k in range(6):
            for word in ("least", "most"):
                for behind in (k, 5):
                    for which in (1, 2):
                        first = replaced(points, (k, which), (word, (0, 1)))
                        some = (3, None, (1, 1), replaced(first, (behind, 2), ("most", (0, 1))))
                        self.refuses(NoTask, {"word": "bounds", "number": k}, near_paper, some)
                        self.refuses(NoTask, {"word": "bounds", "number": k}, near_paper, (3, (6, 1), *some[2:]))
                some = (1, None, (1, 1), replaced(points, (k, 1), (word, (1, 1))))
                self.refuses(NoTask, {"word": "bounds", "number": k}, near_paper, some)

    def test_bounds_that_would_be_kept_are_refused_too(self):
        some = (1, None, (1, 1), (((0, 1), ("held", (1, 1)), FREE), ((1, 1), ("least", (-9, 1)), FREE)))
        self.refuses(NoTask, {"word": "bounds", "number": 1}, near_paper, some)

    def other_numbers(self, some, number):
        """A TASK with other values and slopes told, by a function of those that are."""
        points = []
        for place, *wishes in some[3]:
            new = [wish if wish == FREE else (wish[0], number(wish[1]), *wish[2:]) for wish in wishes]
            points.append((place, *new))
        return (*some[:3], tuple(points))

    def test_told_numbers_added(self):
        chance = random.Random(209)
        for figures in (1, 30):
            for some in all_tasks(210, 1, (2, 4), figures, ("held", "near", "free")):
                added = []

                def plus(number):
                    added.append(fraction(chance, figures))
                    return f(q(number) + q(added[-1]))
                both = self.other_numbers(some, plus)
                other = self.other_numbers(some, lambda number: added.pop(0))
                due = row_sum(near_paper(some)[1], near_paper(other)[1])
                self.assertEqual(near_paper(both)[1], due)

    def test_told_numbers_times_a_factor(self):
        for some in all_tasks(211, 1, (2, 3, 5), 2, ("held", "near", "free")):
            for by in ((0, 1), (-7, 3), (2, 1)):
                scaled = self.other_numbers(some, lambda number: f(q(number) * q(by)))
                self.assertEqual(near_paper(scaled)[1], row_scaled(near_paper(some)[1], by))

    def test_near_held_by_hand(self):
        # By sort 1 from a held 0 to a near 3 of weight 1, 1 away and price 1: the value is 3 / 2.
        some = (1, None, (1, 1), (((0, 1), ("held", (0, 1)), FREE), ((1, 1), ("near", (3, 1), (1, 1)), FREE)))
        due = ("least", (fs(0, 1), (fs(0, Fraction(3, 2)),)), (fs(Fraction(-3, 2), 0), fs(0, 0)))
        self.tells(due, near_paper, some)
        some = (1, None, (2, 1), some[3])
        self.tells(("least", (fs(0, 1), (fs(0, 1),)), (fs(-2, 0), fs(0, 0))), near_paper, some)


if __name__ == "__main__":
    unittest.main()
