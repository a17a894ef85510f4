"""ROWs: [15], [16], [17]."""

import random
import unittest

from gentlebends.errors import NoCut, NoPlace
from gentlebends.rows import bends_at, is_row, row_of_poly, smooth_at, smooth_of, value_at
from helpers import (
    ODD_THINGS, Asking, deep_thing, f, fs, lucas_pair, poly, poly_bends, poly_value, q, replaced, rising, row,
    row_over, row_value, same, spoiled, spread,
)

TENT = (fs(0, 1, 3), (fs(0, 2), fs(2, -1)))


class IsRow(Asking, unittest.TestCase):

    def test_rows(self):
        self.tells(True, is_row, TENT)
        self.tells(True, is_row, (fs(0, 1), ((),)))
        self.tells(True, is_row, (fs(0, 1, 2), ((), ())))
        self.tells(True, is_row, (fs(0, 1, 2), (fs(1, -1), ())))
        chance = random.Random(40)
        for time in range(80):
            self.tells(True, is_row, row(chance, None, chance.randint(0, 3), chance.choice((1, 2, 12))))
        self.tells(True, is_row, row(chance, 12))

    def test_not_joined(self):
        self.tells(False, is_row, (fs(0, 1, 3), (fs(0, 2), fs(1, -1))))
        self.tells(False, is_row, (fs(0, 1, 2), (fs(1), ())))
        self.tells(False, is_row, (fs(0, 1, 2), ((), fs(1))))
        chance = random.Random(41)
        for time in range(60):
            some = row(chance, chance.randint(2, 6))
            k = chance.randrange(1, len(some[1]))
            piece = some[1][k]
            first = piece[0] if piece else (0, 1)
            other = (f(q(first) + 1), *piece[1:])
            if len(other) > 1 or other != fs(0):
                self.tells(False, is_row, (some[0], (*some[1][:k], other, *some[1][k + 1:])))

    def test_cuts_not_rising(self):
        self.tells(False, is_row, (fs(0, 0), ((),)))
        self.tells(False, is_row, (fs(1, 0), ((),)))
        self.tells(False, is_row, (fs(0, 2, 1), ((), ())))
        self.tells(False, is_row, (fs(0, 2, 2), ((), ())))

    def test_numbers_of_cuts_and_pieces(self):
        for thing in ((fs(0), ()), ((), ()), (fs(0, 1), ()), (fs(0, 1), ((), ())), (fs(0, 1, 2), ((),)),
                      (fs(0, 1),), (fs(0, 1), ((),), ())):
            self.tells(False, is_row, thing)

    def test_other_kinds(self):
        for thing in (*ODD_THINGS, deep_thing()):
            due = same(thing, (((0, 1), (1, 1)), ((),)))
            self.tells(due, is_row, thing)
        cuts, pieces = TENT
        for thing in ([cuts, pieces], (list(cuts), pieces), (cuts, list(pieces)), ((cuts[0], [1, 1], cuts[2]), pieces),
                      (cuts, (list(pieces[0]), pieces[1])), (cuts, (((0, 1), [2, 1]), pieces[1])), {0: cuts, 1: pieces},
                      (((False, 1), (1, 1), (3, 1)), pieces), (((0, 1), (True, 1), (3, 1)), pieces),
                      (((0, 1), (2, 2), (3, 1)), pieces), (cuts, (((0, 1), (4, 2)), pieces[1])),
                      (cuts, (((0, 1), (2, 1), (0, 1)), pieces[1])), (cuts, (((False, 1), (2, 1)), pieces[1])),
                      (cuts, (((0, 2), (2, 1)), pieces[1])), (cuts, None), (None, pieces)):
            self.tells(False, is_row, thing)

    def test_one_wrong_kind_anywhere(self):
        for path, thing in spoiled(TENT):
            if not (path in ((1, 0), (1, 1)) and isinstance(thing[1][path[1]], tuple)):
                self.tells(False, is_row, thing)

    def test_degree_above_three(self):
        self.tells(False, is_row, (fs(0, 1), (fs(0, 0, 0, 0, 1),)))

    def test_thousands_of_figures(self):
        a, b = lucas_pair(3990)
        some = (((a, b), (b, a)), (((1, b), (a, 1), (b, a), (-a, b)),))
        self.tells(True, is_row, some)
        cuts = ((-a, b), (0, 1), (1, b))
        ahead = ((1, b), (b, a))
        ends = f(poly_value(ahead, q((a, b))))
        self.tells(True, is_row, (cuts, (ahead, (ends, (a, b)))))
        self.tells(False, is_row, (cuts, (ahead, (f(q(ends) + 1), (a, b)))))
        self.tells(False, is_row, replaced(some, (1, 0, 0), (3 * a, 3 * b)))
        self.tells(False, is_row, replaced(some, (0, 1), (a, b)))


class OfPoly(Asking, unittest.TestCase):

    def test_values(self):
        chance = random.Random(42)
        for time in range(60):
            low, high = rising(chance, 2, chance.choice((2, 12)))
            one = poly(chance)
            some = self.told(row_of_poly, low, high, one)
            self.assertTrue(is_row(some))
            self.assertEqual(some[0], (low, high))
            for x in spread(low, high):
                self.assertEqual(row_value(some, x), poly_value(one, x))
        self.tells((fs(2, 5), (fs(4, 4, 1),)), row_of_poly, (2, 1), (5, 1), fs(0, 0, 1))
        self.tells((fs(2, 5), ((),)), row_of_poly, (2, 1), (5, 1), ())

    def test_high_not_above_low(self):
        self.refuses(NoPlace, {"place": (2, 1)}, row_of_poly, (2, 1), (2, 1), fs(1))
        self.refuses(NoPlace, {"place": (-2, 3)}, row_of_poly, (2, 1), (-2, 3), fs(1))


class AtPlaces(Asking, unittest.TestCase):

    def test_values(self):
        chance = random.Random(43)
        for time in range(60):
            some = row(chance, None, chance.randint(0, 3), chance.choice((1, 2, 12)))
            for x in (*spread(some[0][0], some[0][-1]), *[q(cut) for cut in some[0]]):
                self.tells(f(row_value(some, x)), value_at, some, f(x))

    def test_bends(self):
        chance = random.Random(44)
        for time in range(60):
            cuts, pieces = some = row(chance, None, chance.randint(0, 3))
            for k, piece in enumerate(pieces):
                d = q(cuts[k + 1]) - q(cuts[k])
                ahead, behind = self.told(bends_at, some, cuts[k])
                self.assertTrue(same(behind, fs(*poly_bends(piece, 0))))
                if k == 0:
                    self.assertIsNone(ahead)
                ahead, behind = self.told(bends_at, some, cuts[k + 1])
                self.assertTrue(same(ahead, fs(*poly_bends(piece, d))))
                if k == len(pieces) - 1:
                    self.assertIsNone(behind)
                for part in (d / 2, d / 10 ** 9, d - d / 10 ** 9):
                    due = fs(*poly_bends(piece, part))
                    self.tells((due, due), bends_at, some, f(q(cuts[k]) + part))

    def test_tent(self):
        self.tells((None, fs(0, 2, 0, 0)), bends_at, TENT, (0, 1))
        self.tells((fs(2, 2, 0, 0), fs(2, -1, 0, 0)), bends_at, TENT, (1, 1))
        self.tells((fs(0, -1, 0, 0), None), bends_at, TENT, (3, 1))
        self.tells((2, 1), value_at, TENT, (1, 1))

    def test_nought(self):
        some = (fs(0, 1, 2), ((), ()))
        self.tells((fs(0, 0, 0, 0), fs(0, 0, 0, 0)), bends_at, some, (1, 1))
        self.tells((0, 1), value_at, some, (1, 2))

    def test_outside(self):
        for ask in (value_at, bends_at):
            for place in ((-1, 10 ** 11), (10 ** 11 * 3 + 1, 10 ** 11), (-5, 1), (4, 1)):
                self.refuses(NoPlace, {"place": place}, ask, TENT, place)


class Smoothness(Asking, unittest.TestCase):

    def test_known(self):
        self.tells(0, smooth_at, TENT, 1)
        self.tells(0, smooth_of, TENT)
        for power, due in ((1, 0), (2, 1), (3, 2)):
            bump = tuple(fs(*[0] * power, 1))
            self.tells(due, smooth_at, (fs(-1, 0, 1), ((), bump)), 1)
            self.tells(due, smooth_of, (fs(-1, 0, 1), ((), bump)))
        self.tells(3, smooth_at, (fs(-1, 0, 1), ((), ())), 1)
        self.tells(3, smooth_at, (fs(0, 2, 3), (fs(0, 0, 0, 1), fs(8, 12, 6, 1))), 1)

    def test_later_ones_alike_count_not(self):
        some = (fs(0, 1, 2), (fs(0, 1, 1), fs(2, 5, 1)))
        self.tells(0, smooth_at, some, 1)

    def test_least_of_all(self):
        chance = random.Random(45)
        for time in range(60):
            some = row(chance, chance.randint(2, 6), chance.randint(0, 3))
            all_of_them = []
            for k in range(1, len(some[1])):
                d = q(some[0][k]) - q(some[0][k - 1])
                ahead, behind = poly_bends(some[1][k - 1], d), poly_bends(some[1][k], 0)
                due = max(j for j in range(4) if ahead[1:j + 1] == behind[1:j + 1])
                all_of_them.append(due)
                self.tells(due, smooth_at, some, k)
            self.tells(min(all_of_them), smooth_of, some)

    def test_one_piece(self):
        self.tells(3, smooth_of, (fs(0, 1), (fs(1, 2, 3, 4),)))

    def test_no_such_cut(self):
        one_piece = (fs(0, 1), (fs(1, 2, 3, 4),))
        for k in (0, 1, 2, -1, 10 ** 29, -(10 ** 29)):
            self.refuses(NoCut, {"number": k}, smooth_at, one_piece, k)
        for k in (0, 2, 3, -1, -2, 10 ** 29):
            self.refuses(NoCut, {"number": k}, smooth_at, TENT, k)
        chance = random.Random(46)
        some = row_over(chance, rising(chance, 13))
        self.told(smooth_at, some, 11)
        self.refuses(NoCut, {"number": 12}, smooth_at, some, 12)


if __name__ == "__main__":
    unittest.main()
