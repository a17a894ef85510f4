"""Sheets crossed of rows: [79], [80], [81]."""

import itertools
import random
import unittest

from gentlebends.crossing import sheet_crossed, sheet_through, unit_sheet
from gentlebends.errors import NoSheet
from gentlebends.sheeting import height_at, is_sheet, row_at_x, row_at_y, sheet_turned
from gentlebends.smoothing import smoothest_through
from helpers import ODD_THINGS, Asking, deep_thing, f, fraction, fs, lucas_pair, q, replaced, rising, row_value, spoiled
from movehelpers import own_smoothest, own_unit
from sheethelpers import all_values, between, level_sheet, own_height, places_on, some_values

ASKS = (sheet_through, sheet_crossed)
XS, YS = fs(0, 1, 2), fs(0, 3)
VALUES = (fs(1, 2), fs(3, 4), fs(5, 7))


def by_the_words(sort, xs, ys, values, x):
    """The ROW over ys at x, Python's own number, x first by the words of [79]."""
    along = [own_smoothest(sort, [(place, values[i][j]) for i, place in enumerate(xs)]) for j in range(len(ys))]
    return own_smoothest(sort, [(y, f(row_value(row, x))) for y, row in zip(ys, along)])


class Through(Asking, unittest.TestCase):

    def test_by_the_words(self):
        for sort, xs, ys, values in all_values(810):
            sheet = self.told(sheet_through, sort, xs, ys, values)
            self.tells(True, is_sheet, sheet)
            self.assertEqual(sheet[:2], (xs, ys))
            for x in between(xs, 2):
                self.assertEqual(row_at_x(sheet, f(x)), by_the_words(sort, xs, ys, values, x))

    def test_through_the_values(self):
        for sort, xs, ys, values in all_values(811):
            sheet = sheet_through(sort, xs, ys, values)
            for i, j in itertools.product(range(len(xs)), range(len(ys))):
                self.tells(values[i][j], height_at, sheet, xs[i], ys[j])

    def test_y_first_it_is_the_same(self):
        for sort, xs, ys, values in all_values(812):
            sheet = self.told(sheet_through, sort, xs, ys, values)
            self.tells(sheet, sheet_crossed, sort, xs, ys, values)
            turned = tuple(tuple(column[j] for column in values) for j in range(len(ys)))
            self.tells(sheet_turned(sheet), sheet_through, sort, ys, xs, turned)

    def test_each_row_is_the_smoothest_through_its_own_heights(self):
        for sort, xs, ys, values in all_values(813, (1, 2)):
            for ask in ASKS:
                sheet = ask(sort, xs, ys, values)
                for x in between(xs, 3):
                    heights = tuple((y, height_at(sheet, f(x), y)) for y in ys)
                    self.assertEqual(row_at_x(sheet, f(x)), smoothest_through(sort, None, heights)[1])
                for y in between(ys, 3):
                    heights = tuple((x, height_at(sheet, x, f(y))) for x in xs)
                    self.assertEqual(row_at_y(sheet, f(y)), smoothest_through(sort, None, heights)[1])

    def test_by_hand(self):
        for ask in ASKS:
            for sort in (1, 3):
                self.tells((fs(0, 2), fs(0, 4), (((fs(1, 1), fs(0, 1)),),)), ask, sort, fs(0, 2), fs(0, 4), (fs(1, 1), fs(3, 11)))
                self.tells(level_sheet(XS, YS, 0), ask, sort, XS, YS, (fs(0, 0),) * 3)
                self.tells(level_sheet(XS, YS, 5), ask, sort, XS, YS, (fs(5, 5),) * 3)
            sheet = self.told(ask, 3, fs(0, 1, 2), fs(0, 1), (fs(0, 0), fs(1, 1), fs(0, 0)))
            pieces = smoothest_through(3, None, tuple(zip(fs(0, 1, 2), fs(0, 1, 0))))[1][1]
            self.assertEqual(sheet[2], tuple(((piece,),) for piece in pieces))

    def test_values_added_and_multiplied(self):
        chance = random.Random(814)
        for sort, xs, ys, values in all_values(815, (2,)):
            other = some_values(chance, xs, ys)
            by = fraction(chance)
            both = tuple(tuple(f(q(a) + q(by) * q(b)) for a, b in zip(one, two)) for one, two in zip(values, other))
            sheets = [sheet_through(sort, xs, ys, some) for some in (values, other, both)]
            for x, y in places_on(sheets[0], 2):
                one, two, told = [own_height(sheet, x, y) for sheet in sheets]
                self.assertEqual(told, one + q(by) * two)


class Units(Asking, unittest.TestCase):

    def test_products_of_rows(self):
        for sort, xs, ys, values in all_values(820):
            for i, j in itertools.product(range(len(xs)), range(len(ys))):
                sheet = self.told(unit_sheet, sort, xs, ys, i, j)
                one, other = own_unit(sort, xs, i), own_unit(sort, ys, j)
                for x, y in places_on(sheet, 2):
                    self.assertEqual(own_height(sheet, x, y), row_value(one, x) * row_value(other, y))

    def test_through_one(self):
        for sort, xs, ys, values in all_values(821, (2,)):
            for i, j in itertools.product(range(len(xs)), range(len(ys))):
                one = tuple(tuple(f(int((a, b) == (i, j))) for b in range(len(ys))) for a in range(len(xs)))
                self.tells(sheet_through(sort, xs, ys, one), unit_sheet, sort, xs, ys, i, j)

    def test_the_sheet_is_their_sum(self):
        for sort, xs, ys, values in all_values(822, (1, 2)):
            sheet = sheet_through(sort, xs, ys, values)
            units = {(i, j): unit_sheet(sort, xs, ys, i, j) for i in range(len(xs)) for j in range(len(ys))}
            for x, y in places_on(sheet, 2):
                due = sum(q(values[i][j]) * own_height(unit, x, y) for (i, j), unit in units.items())
                self.assertEqual(own_height(sheet, x, y), due)


class Refused(Asking, unittest.TestCase):

    def no_sheet(self, word, number, *things):
        for ask in ASKS:
            self.refuses(NoSheet, {"word": word, "number": number}, ask, *things)

    def test_sort(self):
        for sort in (0, 2, 4, -1, 10 ** 3999, True, False, None, "1", "3", (1, 1), [1], (3,), {}):
            self.no_sheet("sort", -1, sort, XS, YS, VALUES)
            self.no_sheet("sort", -1, sort, None, None, None)

    def test_places(self):
        for sort in (1, 3):
            for wrong in (*ODD_THINGS, deep_thing(), list(XS), fs(0), fs(0, 1, 2, 3, 4), ((0, 1), 1), ((0, 1), (2, 2)),
                          ((0, 1), (True, 1)), ((0, 1), [1, 1]), dict(enumerate(XS)), ((0, 1), (1, 1), None), (0, 1)):
                if wrong != ((1, 1), (1, 1)):
                    self.no_sheet("x", -1, sort, wrong, YS, VALUES)
                    self.no_sheet("x", -1, sort, wrong, None, None)
                    self.no_sheet("y", -1, sort, XS, wrong, VALUES)
                    self.no_sheet("y", -1, sort, XS, wrong, None)
            for wrong, k in ((fs(1, 1), 1), (fs(2, 1), 1), (fs(0, 1, 1), 2), (fs(0, 2, 1, 0), 2), (fs(0, 1, 2, 2), 3), (fs(5, 1, 9), 1)):
                self.no_sheet("x", k, sort, wrong, None, None)
                self.no_sheet("x", k, sort, wrong, YS, VALUES)
                self.no_sheet("y", k, sort, XS, wrong, VALUES)
                self.no_sheet("y", k, sort, XS, wrong, ())

    def test_values(self):
        for wrong in (*ODD_THINGS, deep_thing(), list(VALUES), VALUES[:2], (*VALUES, fs(1, 1)), dict(enumerate(VALUES))):
            if wrong != (1, 1, 1):
                self.no_sheet("values", -1, 1, XS, YS, wrong)
        self.no_sheet("values", 0, 1, XS, YS, (1, 1, 1))
        for i in range(3):
            for wrong in (*ODD_THINGS, list(VALUES[0]), fs(1), fs(1, 2, 3), (1, 2), ((1, 1), (2, 2)), ((1, 1), (1, True)), ((1, 1), 1)):
                if wrong != ((1, 1), (1, 1)):
                    self.no_sheet("values", i, 3, XS, YS, replaced(VALUES, (i,), wrong))
                    # The first of several is told.
                    both = replaced(replaced(VALUES, (2,), None), (i,), wrong)
                    self.no_sheet("values", i, 3, XS, YS, both)

    def test_one_wrong_kind_anywhere(self):
        good = (1, XS, YS, VALUES)
        self.assertEqual(sheet_through(*good), sheet_crossed(*good))
        for path, thing in spoiled(good):
            if not path or type(thing) is not tuple or len(thing) != 4:
                continue
            if path == (0,):
                word = "sort"
            elif path[0] == 3:
                word = "values"
            else:
                word = "x" if path[0] == 1 else "y"
            for ask in ASKS:
                if path in ((1,), (2,)) and self.is_right_line(thing[path[0]]):
                    word = "values"
                with self.assertRaises(NoSheet) as caught:
                    ask(*thing)
                self.assertEqual(caught.exception.word, word, path)

    def is_right_line(self, line):
        return type(line) is tuple and 2 <= len(line) <= 4 and [q(one) for one in line] == sorted({q(one) for one in line})

    def test_more_things_than_their_kinds_let(self):
        chance = random.Random(830)
        xs, ys = rising(chance, 4), rising(chance, 4)
        for ask in ASKS:
            self.tells(True, is_sheet, ask(1, xs, ys, some_values(chance, xs, ys)))
        self.no_sheet("values", -1, 1, xs, ys, some_values(chance, xs[:3], ys))
        self.no_sheet("values", 0, 1, xs, ys, some_values(chance, xs, ys[:3]))

    def test_great_numbers(self):
        a, b = lucas_pair(4000)
        for ask in ASKS:
            sheet = ask(1, ((0, 1), (a, b)), fs(0, 1), (fs(0, 0), ((a, b), (0, 1))))
            self.assertEqual(sheet[2], (((fs(0, 1), fs(0, -1)),),))
        self.no_sheet("x", 1, 1, ((a, b), (0, 1)), fs(0, 1), None)
        self.no_sheet("x", -1, 1, ((0, 1), (2 * a, 2 * b)), fs(0, 1), None)


if __name__ == "__main__":
    unittest.main()
