"""Slope shares: [57]."""

import random
import unittest
from fractions import Fraction

from gentlebends.errors import NoKnots, NoShares
from gentlebends.knots import ask_knots
from gentlebends.polys import slope_of
from gentlebends.shares import row_of_shares
from gentlebends.slopes import slope_shares
from helpers import Asking, fs, q, row_value
from knothelpers import all_knots, own_stretch, places_in, some_knots, some_shares
from test_pulling import row_slope
from test_putting import wrong_counts


def first_too_often(degree, knots):
    """The number of the first knot INSIDE that stands p times, None without any."""
    low, high = own_stretch(degree, knots)
    for k, one in enumerate(knots):
        if low < q(one) < high and knots.count(one) == degree:
            return k
    return None


class SlopeShares(Asking, unittest.TestCase):

    def each(self, seed, times=4):
        chance = random.Random(seed)
        for figures in (1, 2, 30):
            for degree, knots in all_knots(seed + figures, times):
                if degree > 1:
                    yield degree, knots, some_shares(chance, degree, knots, figures)

    def test_the_row_is_the_slope(self):
        told = refused = 0
        for degree, knots, shares in self.each(500):
            often = first_too_often(degree, knots)
            if often is not None:
                self.refuses(NoKnots, {"word": "often", "number": often}, slope_shares, degree, knots, shares)
                refused += 1
                continue
            inner, slopes = self.told(slope_shares, degree, knots, shares)
            self.assertEqual(inner, knots[1:-1])
            self.tells(True, ask_knots, degree - 1, inner)
            row, slope_row = row_of_shares(degree, knots, shares), row_of_shares(degree - 1, inner, slopes)
            self.assertEqual(slope_row, (row[0], tuple(slope_of(piece) for piece in row[1])))
            told += 1
        self.assertGreater(min(told, refused), 40)

    def test_by_values(self):
        chance = random.Random(510)
        for degree in (2, 3):
            for time in range(10):
                knots = some_knots(chance, degree, None, True)
                shares = some_shares(chance, degree, knots)
                if first_too_often(degree, knots) is None:
                    row = row_of_shares(degree, knots, shares)
                    slopes = row_of_shares(degree - 1, *slope_shares(degree, knots, shares))
                    for x in places_in(degree, knots):
                        self.assertEqual(row_value(slopes, x), row_slope(row, x))

    def test_each_share_by_its_quotient(self):
        for degree, knots, shares in self.each(511):
            if first_too_often(degree, knots) is None:
                slopes = slope_shares(degree, knots, shares)[1]
                self.assertEqual(len(slopes), len(shares) - 1)
                for k, share in enumerate(slopes):
                    rise = degree * (q(shares[k + 1]) - q(shares[k]))
                    self.assertEqual(q(share), rise / (q(knots[k + degree + 1]) - q(knots[k + 1])))

    def test_by_hand(self):
        self.tells((fs(0, 0, 1, 1), fs(8, 0)), slope_shares, 2, fs(0, 0, 0, 1, 1, 1), fs(0, 4, 4))
        self.tells((fs(*[0] * 3, *[2] * 3), fs(Fraction(3, 2), 0, -3)), slope_shares, 3, fs(*[0] * 4, *[2] * 4), fs(1, 2, 2, 0))
        self.tells((fs(0, 0, 1, 3, 3), fs(2, 2, 2)), slope_shares, 2, fs(0, 0, 0, 1, 3, 3, 3), fs(0, 1, 4, 6))

    def test_level(self):
        for degree, knots in all_knots(514, 1):
            if degree > 1 and first_too_often(degree, knots) is None:
                many = len(knots) - 1 - degree
                self.tells((knots[1:-1], fs(*[0] * (many - 1))), slope_shares, degree, knots, ((5, 7),) * many)

    def test_often(self):
        for p in (2, 3):
            for often in range(1, p + 1):
                for other in range(0, p + 1):
                    knots = fs(*[0] * (p + 1), *[1] * often, *[2] * other, *[3] * (p + 1))
                    shares = fs(*range(len(knots) - 1 - p))
                    if p in (often, other):
                        first = p + 1 if often == p else p + 1 + often
                        self.refuses(NoKnots, {"word": "often", "number": first}, slope_shares, p, knots, shares)
                    else:
                        self.assertEqual(self.told(slope_shares, p, knots, shares)[0], knots[1:-1])

    def test_knots_that_are_not_inside_may_stand_often(self):
        # The begin's and the end's knots, and those beyond, are not INSIDE, however often they stand.
        for knots in (fs(0, 0, 1, 2, 3, 3), fs(0, 1, 1, 2, 3, 3), fs(-1, -1, 0, 1, 2, 2), fs(0, 0, 0, 1, 2, 3)):
            inner, slopes = self.told(slope_shares, 2, knots, fs(1, 5, -2))
            self.assertEqual(inner, knots[1:-1])
            row = row_of_shares(2, knots, fs(1, 5, -2))
            self.assertEqual(row_of_shares(1, inner, slopes)[1], tuple(slope_of(piece) for piece in row[1]))

    def test_wrong_number_of_shares_comes_first(self):
        for p in (2, 3):
            for knots in (fs(*[0] * (p + 1), *[1] * p, *[3] * (p + 1)), fs(*range(2 * p + 3))):
                for many in wrong_counts(p, knots):
                    due = {"number": len(knots) - 1 - p}
                    self.refuses(NoShares, due, slope_shares, p, knots, fs(*range(many)))


if __name__ == "__main__":
    unittest.main()
