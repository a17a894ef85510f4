"""How often fractions turn, and cages: [58], with [55] and [60]."""

import random
import unittest
from fractions import Fraction

from gentlebends.errors import NoPlace, NoShares
from gentlebends.putting import put_all
from gentlebends.rows import value_at
from gentlebends.shares import row_of_shares
from gentlebends.sides import cage_at, turns_in
from helpers import Asking, f, fraction, fs, q
from knothelpers import all_knots, own_hills, own_stretch, places_in, some_shares
from test_putting import free_places, wrong_counts


def own_turns(numbers):
    """How often Python's own numbers turn: pairs of unlike signs, nothing but noughts between them."""
    turns = 0
    for k, one in enumerate(numbers):
        rest = [other for other in numbers[k + 1:] if other != 0]
        turns += bool(rest) and one * rest[0] < 0
    return turns


def own_cage(degree, knots, shares, x):
    """The cage by the words of [58], of Python's own number x."""
    own = [q(one) for one in knots]
    last = len(own) - 1
    if x == own[last - degree]:
        some = [q(shares[k]) for k in range(last - 2 * degree - 1, last - degree)]
    else:
        j = max(j for j in range(last) if own[j] <= x and own[j] < own[j + 1])
        some = [q(shares[k]) for k in range(j - degree, j + 1)]
    return (f(min(some)), f(max(some)))


class Turns(Asking, unittest.TestCase):

    def test_by_hand(self):
        for some, due in (
                ((), 0), ((0,), 0), ((0, 0, 0), 0), ((5,), 0), ((-5,), 0), ((1, 2, 3), 0), ((-1, -2), 0), ((1, -1), 1), ((-1, 1), 1),
                ((1, 0, 1), 0), ((1, 0, -1), 1), ((1, 0, 0, -1), 1), ((0, 1, 0, -1, 0), 1), ((1, -1, 1, -1), 3), ((0, 0, -1), 0),
                ((1, 0, -1, 0, 1, 0), 2), ((-1, -1, 1, 1, -1), 2), ((Fraction(1, 9), Fraction(-1, 9)), 1)):
            self.tells(due, turns_in, fs(*some))
            self.tells(due, turns_in, list(fs(*some)))

    def test_by_chance(self):
        chance = random.Random(520)
        for figures in (1, 30):
            for time in range(300):
                some = [fraction(chance, figures) if chance.random() < 0.7 else (0, 1) for k in range(chance.randint(0, 12))]
                due = own_turns([q(one) for one in some])
                self.tells(due, turns_in, some)
                self.tells(due, turns_in, tuple(some[::-1]))
                self.tells(due, turns_in, [(-n, d) for n, d in some])

    def test_shares_turn_no_oftener_when_knots_are_put_in(self):
        chance = random.Random(521)
        fewer = 0
        for time in range(3):
            for degree, knots in all_knots(522 + time, 1):
                shares = some_shares(chance, degree, knots)
                places = free_places(chance, degree, knots, 4)
                ahead = turns_in(shares)
                for many in range(1, 5):
                    now = turns_in(put_all(degree, knots, shares, tuple(places[:many]))[1])
                    self.assertLessEqual(now, ahead)
                    fewer += now < ahead
                    ahead = now
        self.assertGreater(fewer, 5)

    def test_values_turn_no_oftener_than_shares(self):
        chance = random.Random(526)
        for degree, knots in all_knots(527, 3):
            shares = some_shares(chance, degree, knots)
            row = row_of_shares(degree, knots, shares)
            values = [value_at(row, f(x)) for x in places_in(degree, knots)]
            self.assertLessEqual(turns_in(values), turns_in(shares))


class Cages(Asking, unittest.TestCase):

    def test_by_the_words(self):
        chance = random.Random(530)
        for figures in (1, 2, 30):
            for degree, knots in all_knots(531 + figures, 1):
                shares = some_shares(chance, degree, knots, figures)
                row = row_of_shares(degree, knots, shares)
                for x in places_in(degree, knots):
                    low, high = self.told(cage_at, degree, knots, shares, f(x))
                    self.assertEqual((low, high), own_cage(degree, knots, shares, x))
                    self.assertTrue(q(low) <= q(value_at(row, f(x))) <= q(high))

    def test_all_hills_that_are_not_nought_stand_in_it(self):
        for degree, knots in all_knots(536, 1):
            for x in places_in(degree, knots):
                standing = [k for k, height in enumerate(own_hills(degree, knots, x)) if height != 0]
                shares = fs(*range(len(knots) - 1 - degree))
                low, high = cage_at(degree, knots, shares, f(x))
                self.assertEqual(high[0] - low[0], degree)
                self.assertTrue(low[0] <= standing[0] and standing[-1] <= high[0])

    def test_by_hand(self):
        knots, shares = fs(0, 0, 0, 1, 2, 2, 5, 5, 5), fs(4, -1, 7, 0, 3, 9)
        for x, due in ((0, (-1, 7)), (Fraction(1, 2), (-1, 7)), (1, (-1, 7)), (Fraction(3, 2), (-1, 7)), (2, (0, 9)),
                       (Fraction(7, 2), (0, 9)), (5, (0, 9))):
            self.tells(fs(*due), cage_at, 2, knots, shares, f(x))
        knots, shares = fs(0, 1, 2, 3, 4), fs(5, 2, 4)
        for x, due in ((1, (2, 5)), (2, (2, 4)), (3, (2, 4)), (Fraction(5, 2), (2, 4)), (Fraction(19, 10), (2, 5))):
            self.tells(fs(*due), cage_at, 1, knots, shares, f(x))

    def test_end_with_knots_that_go_on_behind_it(self):
        knots, shares = fs(0, 1, 2, 3, 4, 5, 6), fs(1, 9, 2, 5)
        self.tells(fs(2, 9), cage_at, 2, knots, shares, (4, 1))
        self.tells(fs(1, 9), cage_at, 2, knots, shares, (2, 1))
        self.tells(fs(2, 9), cage_at, 2, knots, shares, (3, 1))

    def test_places_outside(self):
        chance = random.Random(538)
        for degree, knots in all_knots(539, 1):
            shares = some_shares(chance, degree, knots)
            low, high = own_stretch(degree, knots)
            tiny = Fraction(1, 10 ** 29)
            for x in (low - tiny, high + tiny, low - 9, high + 9):
                self.refuses(NoPlace, {"place": f(x)}, cage_at, degree, knots, shares, f(x))
            self.told(cage_at, degree, knots, shares, f(low + tiny))
            self.told(cage_at, degree, knots, shares, f(high - tiny))
        # Knots ahead of the STRETCH's begin are outside.
        self.refuses(NoPlace, {"place": (0, 1)}, cage_at, 1, fs(0, 1, 2, 3), fs(1, 1), (0, 1))
        self.refuses(NoPlace, {"place": (3, 1)}, cage_at, 1, fs(0, 1, 2, 3), fs(1, 1), (3, 1))

    def test_wrong_number_of_shares_comes_first(self):
        for degree, knots in all_knots(540, 1):
            low, high = own_stretch(degree, knots)
            for many in wrong_counts(degree, knots):
                for x in (low, high, low - 1, high + 1):
                    due = {"number": len(knots) - 1 - degree}
                    self.refuses(NoShares, due, cage_at, degree, knots, fs(*range(many)), f(x))


if __name__ == "__main__":
    unittest.main()
