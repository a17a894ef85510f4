"""Equations: [33]."""

import random
import unittest
from fractions import Fraction

from gentlebends.errors import NoOne
from gentlebends.solving import solved_by
from helpers import Asking, f, fraction, fs, q


def rank(grid):
    """How many of these lists are free of one another, by Python's own arithmetic."""
    grid = [list(line) for line in grid]
    found = 0
    for column in range(len(grid[0])):
        at = next((k for k in range(found, len(grid)) if grid[k][column]), None)
        if at is None:
            continue
        grid[found], grid[at] = grid[at], grid[found]
        for k in range(len(grid)):
            if k != found and grid[k][column]:
                by = grid[k][column] / grid[found][column]
                grid[k] = [a - by * b for a, b in zip(grid[k], grid[found])]
        found += 1
    return found


def products(row, answer):
    return sum((q(a) * q(b) for a, b in zip(row, answer)), Fraction(0))


class Solving(Asking, unittest.TestCase):

    def test_by_chance(self):
        chance = random.Random(100)
        refused = 0
        for time in range(200):
            many, lines = chance.randint(1, 5), chance.randint(1, 7)
            rows = [[f(chance.choice((0, 0, 1, -1, 2, 3)), chance.choice((1, 1, 2))) for k in range(many)]
                    for line in range(lines)]
            hidden = [fraction(chance, 1) for k in range(many)]
            rights = [f(products(row, hidden)) for row in rows]
            if chance.random() < 0.3:
                rights[chance.randrange(lines)] = fraction(chance, 1)
            own = [[q(one) for one in row] for row in rows]
            full = [[*row, q(right)] for row, right in zip(own, rights)]
            if rank(own) == rank(full) == many:
                told = self.told(solved_by, rows, rights)
                self.assertIs(type(told), tuple)
                self.assertEqual(len(told), many)
                for row, right in zip(rows, rights):
                    self.assertEqual(f(products(row, told)), right)
            else:
                refused += 1
                self.refuses(NoOne, {}, solved_by, rows, rights)
        self.assertTrue(20 < refused < 180)

    def test_one(self):
        self.tells(((2, 3),), solved_by, [[(3, 1)]], [(2, 1)])
        self.tells(((0, 1),), solved_by, [[(-3, 7)]], [(0, 1)])
        self.refuses(NoOne, {}, solved_by, [[(0, 1)]], [(0, 1)])
        self.refuses(NoOne, {}, solved_by, [[(0, 1)]], [(1, 1)])

    def test_more_rows_than_unknowns(self):
        rows = [list(fs(1, 1)), list(fs(1, -1)), list(fs(2, 0)), list(fs(0, 0))]
        self.tells(fs(3, 2), solved_by, rows, list(fs(5, 1, 6, 0)))
        self.refuses(NoOne, {}, solved_by, rows, list(fs(5, 1, 7, 0)))
        self.refuses(NoOne, {}, solved_by, rows, list(fs(5, 1, 6, 1)))
        self.refuses(NoOne, {}, solved_by, [rows[0]] * 3, list(fs(5, 5, 5)))

    def test_fewer_rows_than_unknowns(self):
        self.refuses(NoOne, {}, solved_by, [list(fs(1, 1))], [(1, 1)])
        self.refuses(NoOne, {}, solved_by, [list(fs(1, 0, 0)), list(fs(0, 1, 0))], list(fs(1, 1)))

    def test_rows_in_another_order(self):
        rows = [list(fs(0, 0, 1)), list(fs(0, 1, 5)), list(fs(1, 7, 7))]
        self.tells(fs(-18, 3, 0), solved_by, rows, list(fs(0, 3, 3)))
        self.tells(fs(-18, 3, 0), solved_by, rows[::-1], list(fs(3, 3, 0)))

    def test_first_column_nought(self):
        self.refuses(NoOne, {}, solved_by, [list(fs(0, 1)), list(fs(0, 2))], list(fs(1, 2)))
        self.refuses(NoOne, {}, solved_by, [list(fs(1, 0)), list(fs(2, 0))], list(fs(1, 2)))

    def test_twelve_of_a_hundred_figures(self):
        chance = random.Random(101)
        rows = [[f(chance.randrange(-10 ** 100, 10 ** 100), chance.randrange(1, 10 ** 100)) for k in range(12)]
                for line in range(12)]
        rights = [f(chance.randrange(-10 ** 100, 10 ** 100), chance.randrange(1, 10 ** 100)) for line in range(12)]
        told = solved_by(rows, rights)
        for row, right in zip(rows, rights):
            self.assertEqual(f(products(row, told)), right)
        self.refuses(NoOne, {}, solved_by, rows[:11] + [rows[3]], rights)

    def test_rows_stay(self):
        rows, rights = [list(fs(0, 2)), list(fs(1, 1))], list(fs(4, 5))
        told = solved_by(rows, rights)
        self.assertEqual(told, fs(3, 2))
        rows[0][1] = (9, 1)
        self.assertEqual(told, fs(3, 2))


if __name__ == "__main__":
    unittest.main()
