"""Sheets: [77], [78]."""

import itertools
import random
import unittest
from fractions import Fraction

from gentlebends.bending import under_row
from gentlebends.errors import NoPlace
from gentlebends.rows import is_row
from gentlebends.sheeting import height_at, is_sheet, row_at_x, row_at_y, sheet_turned, under_sheet
from helpers import ODD_THINGS, Asking, deep_thing, f, fs, lucas_pair, q, replaced, row_over, row_value, spoiled
from sheethelpers import (
    all_sheets, between, is_own_joined, level_sheet, own_height, patch_height, places_on, sheet_of_products, some_sheet,
)

# 1 + x + 2 y + 3 x y over one patch.
ONE = (fs(0, 2), fs(0, 3), (((fs(1, 1), fs(2, 3)),),))
# x y over four patches.
FOUR = (fs(0, 1, 2), fs(0, 1, 3), (
    (((), fs(0, 1)), (fs(0, 1), fs(0, 1))),
    (((), fs(1, 1)), (fs(1, 1), fs(1, 1))),
))


class Sheets(Asking, unittest.TestCase):

    def test_sheets(self):
        for sheet in all_sheets(770):
            self.tells(True, is_sheet, sheet)
        for sheet in (ONE, FOUR, level_sheet(fs(0, 1), fs(0, 1), 0), level_sheet(fs(0, 1, 2, 5), fs(-1, 1, 7), 3)):
            self.tells(True, is_sheet, sheet)

    def test_odd_things(self):
        for thing in (*ODD_THINGS, deep_thing(), list(ONE), ONE[:2], (*ONE, ()), dict(enumerate(ONE)), (ONE,)):
            self.tells(False, is_sheet, thing)

    def test_kinds_within(self):
        xcuts, ycuts, patches = ONE
        patch = patches[0][0]
        for thing in (
                (fs(0), ycuts, ()), ((), (), ()), (fs(2, 0), ycuts, patches), (fs(0, 0), ycuts, patches), (xcuts, fs(3, 0), patches),
                (xcuts, fs(0, 3, 3), ((patch, patch),)), (list(xcuts), ycuts, patches), (xcuts, ycuts, list(patches)),
                (xcuts, ycuts, [patches[0]]), (xcuts, ycuts, (list(patches[0]),)), (xcuts, ycuts, ()), (xcuts, ycuts, ((),)),
                (xcuts, ycuts, patches * 2), (xcuts, ycuts, ((patch, patch),)), (xcuts, ycuts, ((list(patch),),)),
                # A PATCH whose last POLY is (), one of too many POLYs, a POLY with a nought last, a POLY too long.
                (xcuts, ycuts, ((((),),),)), (xcuts, ycuts, (((*patch, ()),),)), (xcuts, ycuts, (((patch[0],) * 5,),)),
                (xcuts, ycuts, (((fs(1, 0),),),)), (xcuts, ycuts, (((fs(1, 1, 1, 1, 1),),),)), (xcuts, ycuts, ((patch[0],),)),
                (xcuts, ycuts, (((fs(0),),),)), (xcuts, ycuts, (((((2, 2),),),),)), (xcuts, ycuts, (((((1, True),),),),)),
                (fs(0, 1, 2), ycuts, patches), (xcuts, fs(0, 1, 3), patches), (xcuts, ycuts, None), (xcuts, None, patches)):
            self.tells(False, is_sheet, thing)
        for thing in ((xcuts, ycuts, (((patch[0],) * 4,),)), (xcuts, ycuts, (((fs(1, 1, 1, 1),),),)), (xcuts, ycuts, (((),),)),
                      (xcuts, ycuts, ((((), (), fs(1)),),))):
            self.tells(True, is_sheet, thing)

    def test_one_wrong_kind_anywhere(self):
        for path, thing in spoiled(ONE):
            here = path[:2] == (2, 0) and len(path) >= 3
            if here and self.has_patch(thing):
                # Of one patch any other PATCH is a sheet, too.
                self.tells(True, is_sheet, thing)
            else:
                self.tells(False, is_sheet, thing)

    def has_patch(self, thing):
        patch = thing[2][0][0]
        if type(patch) is not tuple or len(patch) > 4 or (patch and patch[-1] == ()):
            return False
        for poly in patch:
            if type(poly) is not tuple or len(poly) > 4 or not all(type(c) is tuple and len(c) == 2 for c in poly):
                return False
            if not all(type(n) is int for c in poly for n in c) or (poly and poly[-1][0] == 0):
                return False
        return True

    def test_not_joined(self):
        chance = random.Random(771)
        unjoined = 0
        for sheet in all_sheets(772, (1, 2)):
            xcuts, ycuts, patches = sheet
            for time in range(6):
                i, j = chance.randrange(len(patches)), chance.randrange(len(patches[0]))
                patch = patches[i][j]
                if not patch:
                    continue
                b = chance.randrange(len(patch))
                a = chance.randrange(len(patch[b])) if patch[b] else None
                if a is None:
                    continue
                thing = replaced(sheet, (2, i, j, b, a), f(q(patch[b][a]) + 1))
                if thing[2][i][j][b][-1] == (0, 1):
                    continue
                due = is_own_joined(thing)
                self.tells(due, is_sheet, thing)
                unjoined += not due
        self.assertGreater(unjoined, 40)

    def test_each_border_counts(self):
        # Over four patches one of them is another height: two borders are broken, wherever it stands.
        base = level_sheet(fs(0, 1, 2), fs(0, 1, 2), 1)
        for i, j in itertools.product(range(2), range(2)):
            self.tells(False, is_sheet, replaced(base, (2, i, j), (fs(2),)))
            self.tells(False, is_sheet, replaced(base, (2, i, j), ()))
        # Alike at the border's ends and its middle, but not between them.
        wave = (fs(1), (f(0), f(1)), (f(0), f(-3)), (f(0), f(2)))
        self.assertEqual([patch_height(wave, 1, Fraction(k, 2)) for k in range(3)], [1, 1, 1])
        self.tells(False, is_sheet, (fs(0, 1, 2), fs(0, 1), ((wave,), ((fs(1),),))))
        self.tells(True, is_sheet, (fs(0, 1), fs(0, 1), ((wave,),)))
        turned = (fs(1), fs(0, 1, -3, 2))
        self.tells(False, is_sheet, (fs(0, 1), fs(0, 1, 2), ((turned, (fs(1),)),)))

    def test_great_numbers(self):
        a, b = lucas_pair(4000)
        self.tells(True, is_sheet, ((((0, 1), (a, b))), fs(0, 1), (((((a, b), (b, a)),),),)))
        self.tells(False, is_sheet, ((((0, 1), (a, b), (1, 1))), fs(0, 1), (((((a, b),),),), ((((b, a),),),))))


class Heights(Asking, unittest.TestCase):

    def test_by_the_words(self):
        for sheet in all_sheets(780, (1, 2, 15), (2, 4)):
            for x, y in places_on(sheet, 2):
                self.tells(f(own_height(sheet, x, y)), height_at, sheet, f(x), f(y))

    def test_by_hand(self):
        self.tells((1, 1), height_at, ONE, (0, 1), (0, 1))
        self.tells(f(1 + 2 + 6 + 18), height_at, ONE, (2, 1), (3, 1))
        self.tells(f(15, 4), height_at, FOUR, f(3, 2), f(5, 2))
        self.tells(f(1), height_at, FOUR, f(1), f(1))
        self.tells((0, 1), height_at, level_sheet(fs(0, 1), fs(0, 1), 0), (1, 2), (1, 3))

    def test_outside(self):
        tiny = Fraction(1, 10 ** 20)
        for sheet in (ONE, FOUR):
            xlow, xhigh, ylow, yhigh = [q(cut) for cuts in sheet[:2] for cut in (cuts[0], cuts[-1])]
            for x in (xlow - tiny, xhigh + tiny, xhigh + 9):
                # The first one is told ahead of the second one.
                for y in (ylow, yhigh, ylow - 1, yhigh + 1):
                    self.refuses(NoPlace, {"place": f(x)}, height_at, sheet, f(x), f(y))
                self.refuses(NoPlace, {"place": f(x)}, row_at_x, sheet, f(x))
            for y in (ylow - tiny, yhigh + tiny, ylow - 9):
                for x in (xlow, xhigh):
                    self.refuses(NoPlace, {"place": f(y)}, height_at, sheet, f(x), f(y))
                self.refuses(NoPlace, {"place": f(y)}, row_at_y, sheet, f(y))

    def test_rows(self):
        for sheet in all_sheets(781, (1, 2, 15), (2, 4)):
            xs, ys = between(sheet[0], 2), between(sheet[1], 2)
            for x in xs:
                told = self.told(row_at_x, sheet, f(x))
                self.assertTrue(is_row(told))
                self.assertEqual(told[0], sheet[1])
                for y in between(sheet[1], 3):
                    self.assertEqual(row_value(told, y), own_height(sheet, x, y))
            for y in ys:
                told = self.told(row_at_y, sheet, f(y))
                self.assertTrue(is_row(told))
                self.assertEqual(told[0], sheet[0])
                for x in between(sheet[0], 3):
                    self.assertEqual(row_value(told, x), own_height(sheet, x, y))

    def test_rows_by_hand(self):
        self.tells((fs(0, 3), (fs(2, 5),)), row_at_x, ONE, (1, 1))
        self.tells((fs(0, 2), (fs(3, 4),)), row_at_y, ONE, (1, 1))
        self.tells((fs(0, 1, 3), ((), ())), row_at_x, FOUR, (0, 1))
        self.tells((fs(0, 1, 2), (fs(0, 3), fs(3, 3))), row_at_y, FOUR, (3, 1))


class Turned(Asking, unittest.TestCase):

    def test_by_the_words(self):
        for sheet in all_sheets(790, (1, 2, 15), (2, 3)):
            turned = self.told(sheet_turned, sheet)
            self.tells(True, is_sheet, turned)
            self.assertEqual(turned[:2], (sheet[1], sheet[0]))
            for x, y in places_on(sheet, 2):
                self.assertEqual(own_height(turned, y, x), own_height(sheet, x, y))
            self.tells(sheet, sheet_turned, turned)

    def test_rows_are_exchanged(self):
        for sheet in all_sheets(791, (2,)):
            turned = sheet_turned(sheet)
            for x in between(sheet[0], 2):
                self.tells(row_at_x(sheet, f(x)), row_at_y, turned, f(x))

    def test_by_hand(self):
        self.tells((fs(0, 3), fs(0, 2), (((fs(1, 2), fs(1, 3)),),)), sheet_turned, ONE)
        nought = level_sheet(fs(0, 1, 2), fs(4, 5), 0)
        self.tells(level_sheet(fs(4, 5), fs(0, 1, 2), 0), sheet_turned, nought)
        # Noughts at the end are left out, on either side.
        self.tells((fs(0, 1), fs(0, 1), ((((), (), (), fs(1)),),)), sheet_turned, (fs(0, 1), fs(0, 1), (((fs(0, 0, 0, 1),),),)))
        self.tells((fs(0, 1), fs(0, 1), (((fs(0, 0, 0, 1),),),)), sheet_turned, (fs(0, 1), fs(0, 1), ((((), (), (), fs(1)),),)))


class Beneath(Asking, unittest.TestCase):

    def own_sum(self, sheet):
        """The sum beneath, patch by patch and power by power."""
        xcuts, ycuts, patches = sheet
        total = Fraction(0)
        for i, column in enumerate(patches):
            wide = q(xcuts[i + 1]) - q(xcuts[i])
            for j, patch in enumerate(column):
                long = q(ycuts[j + 1]) - q(ycuts[j])
                for b, poly in enumerate(patch):
                    for a, c in enumerate(poly):
                        total += q(c) * wide ** (a + 1) / (a + 1) * long ** (b + 1) / (b + 1)
        return total

    def test_by_powers(self):
        for sheet in all_sheets(800):
            self.tells(f(self.own_sum(sheet)), under_sheet, sheet)

    def test_either_way_first(self):
        for sheet in all_sheets(801):
            self.tells(under_sheet(sheet), under_sheet, sheet_turned(sheet))

    def test_of_products(self):
        chance = random.Random(802)
        for time in range(10):
            one, other = row_over(chance, fs(0, 1, 4)), row_over(chance, fs(-2, 3))
            due = q(under_row(one, (0, 1), (4, 1))) * q(under_row(other, (-2, 1), (3, 1)))
            self.tells(f(due), under_sheet, sheet_of_products([(one, other)]))

    def test_row_of_the_sums_beneath(self):
        # Simpson's rule is exact for the row of the sums, whose pieces have degree at most three.
        for sheet in all_sheets(803, (1, 2)):
            xcuts, ycuts, patches = sheet
            total = Fraction(0)
            for low, high in zip(xcuts, xcuts[1:]):
                middle = (q(low) + q(high)) / 2
                ends = [q(under_row(row_at_x(sheet, f(x)), ycuts[0], ycuts[-1])) for x in (q(low), middle, q(high))]
                total += (q(high) - q(low)) / 6 * (ends[0] + 4 * ends[1] + ends[2])
            self.tells(f(total), under_sheet, sheet)

    def test_by_hand(self):
        self.tells(f(6 + 6 + 18 + 27), under_sheet, ONE)
        self.tells(f(9), under_sheet, FOUR)
        self.tells((0, 1), under_sheet, level_sheet(fs(0, 1), fs(0, 1), 0))
        self.tells(f(-40), under_sheet, level_sheet(fs(0, 1, 2), fs(0, 4), -5))

    def test_told_again(self):
        chance = random.Random(804)
        sheet = some_sheet(chance, 4, 4, 15)
        for time in range(3):
            sheet = sheet_turned(sheet)
            self.tells(True, is_sheet, sheet)
            self.told(height_at, sheet, sheet[0][1], sheet[1][2])


if __name__ == "__main__":
    unittest.main()
