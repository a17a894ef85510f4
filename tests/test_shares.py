"""SHARES and their ROWs: [52], [53]."""

import random
import unittest
from fractions import Fraction

from gentlebends.cutting import are_one, bare_row, with_cut
from gentlebends.errors import NoKnots, NoShares
from gentlebends.rows import is_row, row_of_poly
from gentlebends.rowsums import row_sum
from gentlebends.shares import row_of_shares, shares_of_row
from helpers import Asking, f, fraction, fs, poly_bends, q, row_value, trimmed
from knothelpers import all_knots, own_cuts, own_stretch, own_value, places_in, some_shares


def row_of_knots(chance, degree, knots, less_at=None, figures=2):
    """A ROW with just as much freedom as KNOTS let, some cuts that are no knots among its own; at inner cut number
    less_at it is less smooth than they let.
    """
    low, high = own_stretch(degree, knots)
    own = [q(one) for one in knots]
    inner = {one for one in own if low < one < high and chance.random() < 0.7}
    inner |= {low + (high - low) * Fraction(k, 19) for k in chance.sample(range(1, 19), 2)}
    cuts = [low, *sorted(inner), high]
    pieces = []
    for k in range(len(cuts) - 1):
        numbers = [q(fraction(chance, figures)) for power in range(degree + 1)]
        if pieces:
            bends = poly_bends(pieces[-1], cuts[k] - cuts[k - 1])
            often = own.count(cuts[k])
            smooth = degree if often == 0 else degree - often
            for power in range(smooth + 1):
                numbers[power] = bends[power] * (1, 1, Fraction(1, 2), Fraction(1, 6))[power]
            if k == less_at and smooth > 0:
                # One bend of those that have to be alike is turned: the last of them.
                numbers[smooth] += 1
        pieces.append(trimmed(numbers))
    return (tuple(f(cut) for cut in cuts), tuple(pieces))


class Rows(Asking, unittest.TestCase):

    def test_by_the_words(self):
        chance = random.Random(430)
        for figures in (1, 2, 30):
            for degree, knots in all_knots(431 + figures, 1):
                shares = some_shares(chance, degree, knots, figures)
                row = self.told(row_of_shares, degree, knots, shares)
                self.assertTrue(is_row(row))
                self.assertEqual(row[0], own_cuts(degree, knots))
                self.assertTrue(all(len(piece) <= degree + 1 for piece in row[1]))
                for x in places_in(degree, knots):
                    self.assertEqual(row_value(row, x), own_value(degree, knots, shares, x))

    def test_known(self):
        self.tells((fs(0, 1), (fs(3, 4),)), row_of_shares, 1, fs(0, 0, 1, 1), fs(3, 7))
        self.tells((fs(1, 2, 3), (fs(5, -3), fs(2, 2))), row_of_shares, 1, fs(0, 1, 2, 3, 4), fs(5, 2, 4))
        self.tells((fs(0, 1), (fs(0, 0, 0, 1),)), row_of_shares, 3, fs(0, 0, 0, 0, 1, 1, 1, 1), fs(0, 0, 0, 1))
        self.tells((fs(0, 1), ((),)), row_of_shares, 2, fs(0, 0, 0, 1, 1, 1), fs(0, 0, 0))

    def test_shares_alike_make_a_level_row(self):
        for degree, knots in all_knots(432, 1):
            many = len(knots) - 1 - degree
            row = row_of_shares(degree, knots, ((5, 7),) * many)
            self.assertTrue(all(piece == ((5, 7),) for piece in row[1]))

    def test_shares_added(self):
        chance = random.Random(433)
        for degree, knots in all_knots(434, 1):
            one, other = some_shares(chance, degree, knots), some_shares(chance, degree, knots)
            both = tuple(f(q(a) + q(b)) for a, b in zip(one, other))
            due = row_sum(row_of_shares(degree, knots, one), row_of_shares(degree, knots, other))
            self.tells(due, row_of_shares, degree, knots, both)

    def test_wrong_number_of_shares(self):
        for degree, knots in all_knots(435, 1):
            due = len(knots) - 1 - degree
            for many in {0, 1, due - 1, due + 1, due + degree, len(knots)} - {due}:
                self.refuses(NoShares, {"number": due}, row_of_shares, degree, knots, ((1, 1),) * many)


class SharesOfRows(Asking, unittest.TestCase):

    def no_knots(self, word, number, degree, knots, row):
        self.refuses(NoKnots, {"word": word, "number": number}, shares_of_row, degree, knots, row)

    def test_there_and_back(self):
        chance = random.Random(440)
        for figures in (1, 2, 30):
            for degree, knots in all_knots(441 + figures, 1):
                shares = some_shares(chance, degree, knots, figures)
                row = row_of_shares(degree, knots, shares)
                self.tells(shares, shares_of_row, degree, knots, row)
                self.tells(shares, shares_of_row, degree, knots, bare_row(row))

    def test_cuts_that_are_no_knots(self):
        chance = random.Random(442)
        for degree, knots in all_knots(443, 1):
            shares = some_shares(chance, degree, knots)
            row = row_of_shares(degree, knots, shares)
            low, high = own_stretch(degree, knots)
            for part in (Fraction(1, 97), Fraction(1, 2), Fraction(96, 97)):
                row = with_cut(row, f(low + (high - low) * part))
            self.tells(shares, shares_of_row, degree, knots, row)

    def test_knots_that_are_no_cuts(self):
        chance = random.Random(444)
        for degree, knots in all_knots(445, 1):
            low, high = own_stretch(degree, knots)
            numbers = trimmed([q(fraction(chance)) for power in range(degree + 1)])
            row = row_of_poly(f(low), f(high), numbers)
            shares = self.told(shares_of_row, degree, knots, row)
            self.assertTrue(are_one(row_of_shares(degree, knots, shares), row))
            self.assertEqual(len(row[1]), 1)

    def test_rows_by_chance(self):
        chance = random.Random(446)
        for figures in (1, 2, 8):
            for degree, knots in all_knots(447 + figures, 2):
                row = row_of_knots(chance, degree, knots, None, figures)
                shares = self.told(shares_of_row, degree, knots, row)
                self.assertEqual(len(shares), len(knots) - 1 - degree)
                self.assertTrue(are_one(row_of_shares(degree, knots, shares), row))

    def test_less_smooth_than_knots_let(self):
        chance = random.Random(448)
        refused = 0
        for degree, knots in all_knots(449, 4):
            k = chance.randint(1, 2)
            row = row_of_knots(chance, degree, knots, k)
            if knots.count(row[0][k]) >= degree:
                continue
            self.no_knots("smooth", k, degree, knots, row)
            refused += 1
        self.assertGreater(refused, 40)

    def test_smooth_by_how_often_a_knot_stands(self):
        for p in (1, 2, 3):
            for often in range(p + 1):
                knots = fs(*[0] * (p + 1), *[1] * often, *[2] * (p + 1))
                for power in range(1, p + 1):
                    # A row that is nought up to 1 and (x - 1) ** power behind it is smooth of power - 1 there.
                    row = (fs(0, 1, 2), ((), fs(*[0] * power, 1)))
                    if often and power - 1 >= p - often:
                        shares = self.told(shares_of_row, p, knots, row)
                        self.assertTrue(are_one(row_of_shares(p, knots, shares), row))
                    else:
                        self.no_knots("smooth", 1, p, knots, row)

    def test_stretch(self):
        for degree, knots in all_knots(450, 1):
            low, high = own_stretch(degree, knots)
            tiny = Fraction(1, 10 ** 29)
            for begin, end in ((low - 1, high), (low, high + 1), (low - tiny, high), (low, high - tiny), (low - 1, high + 1)):
                self.no_knots("stretch", -1, degree, knots, (fs(begin, end), (fs(1),)))
                middle = (begin + end) / 2
                self.no_knots("stretch", -1, degree, knots, (fs(begin, middle, end), (fs(1), fs(1, 1, 1, 1))))
        self.no_knots("stretch", -1, 1, fs(0, 1, 2, 3), (fs(0, 3), (fs(1),)))
        self.tells(fs(1, 1), shares_of_row, 1, fs(0, 1, 2, 3), (fs(1, 2), (fs(1),)))

    def test_degree(self):
        for degree in (1, 2):
            knots = fs(*[0] * (degree + 1), 1, *[2] * (degree + 1))
            high = fs(*[0] * (degree + 1), 1)
            self.no_knots("degree", 0, degree, knots, (fs(0, 2), (high,)))
            self.no_knots("degree", 1, degree, knots, (fs(0, 1, 2), ((), high)))
            # A degree that is too great is told ahead of an earlier cut that isn't smooth.
            row = (fs(0, Fraction(1, 2), 1, 2), ((), fs(0, 2), fs(1, *[0] * degree, 5)))
            self.no_knots("degree", 2, degree, knots, row)

    def test_first_cut_that_is_not_smooth(self):
        knots = fs(0, 0, 0, 1, 2, 3, 3, 3)
        row = (fs(0, 1, 2, 3), ((), fs(0, 1), fs(1, 2)))
        self.no_knots("smooth", 1, 2, knots, row)
        row = (fs(0, 1, 2, 3), (fs(0, 1), fs(1, 1), fs(2, 2)))
        self.no_knots("smooth", 2, 2, knots, row)
        row = (fs(0, 1, Fraction(3, 2), 2, 3), ((), fs(0, 0, 1), fs(Fraction(1, 4), 1), fs(Fraction(3, 4), 1)))
        self.no_knots("smooth", 2, 2, knots, row)

    def test_sixteen_pieces(self):
        chance = random.Random(451)
        for degree, knots in all_knots(452, 1):
            shares = some_shares(chance, degree, knots, 6)
            row = row_of_shares(degree, knots, shares)
            low, high = own_stretch(degree, knots)
            for k in range(1, 17 - len(row[1])):
                row = with_cut(row, f(low + (high - low) * Fraction(k, 101)))
            self.assertEqual(len(row[1]), 16)
            self.tells(shares, shares_of_row, degree, knots, row)


if __name__ == "__main__":
    unittest.main()
