"""Knots put in and taken out: [55], [56]."""

import itertools
import random
import unittest
from fractions import Fraction

from gentlebends.cutting import are_one
from gentlebends.errors import NoKnot, NoKnots, NoPlace, NoShares
from gentlebends.knots import ask_knots
from gentlebends.putting import put_all, put_in, taken_out
from gentlebends.shares import row_of_shares, shares_of_row
from helpers import Asking, f, fs, q
from knothelpers import all_knots, knot, own_stretch, some_shares


def free_places(chance, degree, knots, many):
    """Places INSIDE at which so many knots can be put in, those of knots among them."""
    low, high = own_stretch(degree, knots)
    found = []
    while len(found) < many:
        x = chance.choice([knot(chance), chance.choice(knots), f((low + high) / 2), *found])
        if low < q(x) < high and knots.count(x) + found.count(x) < degree:
            found.append(x)
        elif chance.random() < 0.1:
            x = f(low + (high - low) * Fraction(chance.randint(1, 100), 101))
            if (*knots, *found).count(x) < degree:
                found.append(x)
    return found


def wrong_counts(degree, knots):
    """Numbers of shares that are wrong."""
    due = len(knots) - 1 - degree
    return sorted({0, 1, due - 1, due + 1, len(knots)} - {due})


class PutIn(Asking, unittest.TestCase):

    def each(self, seed, times=2):
        chance = random.Random(seed)
        for figures in (1, 2, 30):
            for degree, knots in all_knots(seed + figures, times):
                yield degree, knots, some_shares(chance, degree, knots, figures), chance

    def test_same_row(self):
        for degree, knots, shares, chance in self.each(460):
            x = free_places(chance, degree, knots, 1)[0]
            more, turned = self.told(put_in, degree, knots, shares, x)
            self.assertEqual(more, tuple(sorted([*knots, x], key=q)))
            self.tells(True, ask_knots, degree, more)
            row = row_of_shares(degree, knots, shares)
            self.assertTrue(are_one(row_of_shares(degree, more, turned), row))
            self.tells(turned, shares_of_row, degree, more, row)

    def test_shares_stay_or_lie_between_neighbours(self):
        for degree, knots, shares, chance in self.each(461):
            x = free_places(chance, degree, knots, 1)[0]
            turned = put_in(degree, knots, shares, x)[1]
            own = [q(share) for share in shares]
            for k, share in enumerate(turned):
                neighbours = own[max(k - 1, 0):k + 1]
                self.assertTrue(min(neighbours) <= q(share) <= max(neighbours))

    def test_known(self):
        half = Fraction(1, 2)
        self.tells((fs(0, 0, half, 1, 1), fs(3, 5, 7)), put_in, 1, fs(0, 0, 1, 1), fs(3, 7), f(half))
        self.tells((fs(0, 0, 0, half, 1, 1, 1), fs(0, 2, 4, 4)), put_in, 2, fs(0, 0, 0, 1, 1, 1), fs(0, 4, 4), f(half))
        more = fs(0, 0, 0, half, half, 1, 1, 1)
        self.tells((more, fs(0, 2, 3, 4, 4)), put_in, 2, fs(0, 0, 0, half, 1, 1, 1), fs(0, 2, 4, 4), f(half))
        knots = fs(*[0] * 4, *[1] * 4)
        self.tells((fs(*[0] * 4, half, *[1] * 4), fs(0, 4, 6, 2, 0)), put_in, 3, knots, fs(0, 8, 4, 0), (1, 2))

    def test_put_in_p_times_the_value_is_a_share(self):
        for degree, knots, shares, chance in self.each(462, 1):
            x = free_places(chance, degree, knots, 1)[0]
            more, turned = put_all(degree, knots, shares, (x,) * (degree - knots.count(x)))
            self.assertEqual(more.count(x), degree)
            cut = row_of_shares(degree, more, turned)
            value = cut[1][cut[0].index(x)][:1] or ((0, 1),)
            self.assertEqual(turned[more.index(x) - 1], value[0])
            self.assertTrue(are_one(cut, row_of_shares(degree, knots, shares)))

    def test_not_inside(self):
        for degree, knots, shares, chance in self.each(463, 1):
            low, high = own_stretch(degree, knots)
            tiny = Fraction(1, 10 ** 29)
            for x in (low, high, low - tiny, high + tiny, low - 5, high + 5, q(knots[0]), q(knots[-1])):
                self.refuses(NoPlace, {"place": f(x)}, put_in, degree, knots, shares, f(x))
                self.refuses(NoPlace, {"place": f(x)}, put_all, degree, knots, shares, (f(x),))
            put_in(degree, knots, shares, f(low + tiny))
            put_in(degree, knots, shares, f(high - tiny))

    def test_too_often(self):
        for p in (1, 2, 3):
            for ahead in (0, 2):
                knots = fs(*[0] * (p + 1), *[1] * min(ahead, p), *[5] * p, 6, *[9] * (p + 1))
                shares = fs(*range(len(knots) - 1 - p))
                due = {"word": "often", "number": p + 1 + min(ahead, p)}
                self.refuses(NoKnots, due, put_in, p, knots, shares, (5, 1))
                self.refuses(NoKnots, due, put_all, p, knots, shares, ((5, 1),))
                # By the knots as they stand then the first of them has another number.
                due = {"word": "often", "number": p + 2 + min(ahead, p)}
                self.refuses(NoKnots, due, put_all, p, knots, shares, ((1, 2), (5, 1)))

    def test_wrong_number_of_shares_comes_first(self):
        for degree, knots in all_knots(464, 1):
            due = {"number": len(knots) - 1 - degree}
            for many in wrong_counts(degree, knots):
                shares = fs(*range(many))
                for x in (knots[0], knots[-1], knots[degree], (10 ** 5, 1), knots[degree + 1]):
                    self.refuses(NoShares, due, put_in, degree, knots, shares, x)
                    self.refuses(NoShares, due, put_all, degree, knots, shares, (x, x))
                    self.refuses(NoShares, due, put_all, degree, knots, shares, ())
                for k in (-1, 0, degree + 1, len(knots), 10 ** 29):
                    self.refuses(NoShares, due, taken_out, degree, knots, shares, k)


class PutAll(Asking, unittest.TestCase):

    def test_none(self):
        chance = random.Random(470)
        for degree, knots in all_knots(471, 1):
            shares = some_shares(chance, degree, knots)
            self.tells((knots, shares), put_all, degree, knots, shares, ())

    def test_one_behind_the_other_in_any_order(self):
        chance = random.Random(472)
        for figures in (1, 30):
            for degree, knots in all_knots(473 + figures, 1):
                shares = some_shares(chance, degree, knots, figures)
                places = free_places(chance, degree, knots, 3)
                due = (knots, shares)
                for x in places:
                    due = put_in(degree, *due, x)
                for order in itertools.permutations(places):
                    self.tells(due, put_all, degree, knots, shares, order)
                row = row_of_shares(degree, knots, shares)
                self.assertEqual(due[0], tuple(sorted([*knots, *places], key=q)))
                self.assertEqual(due[1], shares_of_row(degree, due[0], row))

    def test_sixteen_knots(self):
        chance = random.Random(474)
        for degree in (1, 2, 3):
            knots = fs(*range(12))
            shares = some_shares(chance, degree, knots, 30)
            places = tuple(free_places(chance, degree, knots, 4))
            more, turned = self.told(put_all, degree, knots, shares, places)
            self.assertEqual(len(more), 16)
            self.assertTrue(are_one(row_of_shares(degree, more, turned), row_of_shares(degree, knots, shares)))

    def test_refused_as_the_first_one_that_is(self):
        knots, shares = fs(0, 0, 0, 2, 4, 4, 4), fs(1, 5, 2, 7)
        half = Fraction(1, 2)
        for places, kind, fields in (
                (fs(1, 4, 9), NoPlace, {"place": (4, 1)}), (fs(9, 4), NoPlace, {"place": (9, 1)}),
                (fs(2, 2, 9), NoKnots, {"word": "often", "number": 3}), (fs(0, 2, 2), NoPlace, {"place": (0, 1)}),
                (fs(1, 1, 1), NoKnots, {"word": "often", "number": 3}), (fs(2, half, 2), NoKnots, {"word": "often", "number": 4}),
                (fs(3, 3, 2, 3, 0), NoKnots, {"word": "often", "number": 5}), (fs(2, -1, 2), NoPlace, {"place": (-1, 1)})):
            self.refuses(kind, fields, put_all, 2, knots, shares, places)


class TakenOut(Asking, unittest.TestCase):

    def test_what_was_put_in(self):
        chance = random.Random(480)
        for figures in (1, 2, 30):
            for degree, knots in all_knots(481 + figures, 1):
                shares = some_shares(chance, degree, knots, figures)
                x = free_places(chance, degree, knots, 1)[0]
                more, turned = put_in(degree, knots, shares, x)
                for k in range(len(more)):
                    if more[k] == x:
                        self.tells((knots, shares), taken_out, degree, more, turned, k)

    def test_several(self):
        chance = random.Random(484)
        for degree, knots in all_knots(485, 1):
            shares = some_shares(chance, degree, knots)
            places = free_places(chance, degree, knots, 3)
            pair = put_all(degree, knots, shares, tuple(places))
            for x in chance.sample(places, 3):
                pair = taken_out(degree, *pair, pair[0].index(x))
            self.assertEqual(pair, (knots, shares))

    def test_rows_that_need_the_knot(self):
        chance = random.Random(486)
        refused = 0
        for degree, knots in all_knots(487, 2):
            shares = some_shares(chance, degree, knots)
            row = row_of_shares(degree, knots, shares)
            low, high = own_stretch(degree, knots)
            for k in range(len(knots)):
                if low < q(knots[k]) < high:
                    fewer = (*knots[:k], *knots[k + 1:])
                    try:
                        due = shares_of_row(degree, fewer, row)
                    except NoKnots:
                        self.refuses(NoKnot, {"number": k}, taken_out, degree, knots, shares, k)
                        refused += 1
                    else:
                        self.tells((fewer, due), taken_out, degree, knots, shares, k)
        self.assertGreater(refused, 80)

    def test_polynomials_need_no_knot(self):
        for p in (1, 2, 3):
            knots = fs(*[0] * (p + 1), 1, 2, *[3] * (p + 1))
            row = (fs(0, 3), (fs(*[2] * (p + 1)),))
            shares = shares_of_row(p, knots, row)
            for k in (p + 1, p + 2):
                fewer, turned = self.told(taken_out, p, knots, shares, k)
                self.assertEqual(fewer, (*knots[:k], *knots[k + 1:]))
                self.assertTrue(are_one(row_of_shares(p, fewer, turned), row))

    def test_known(self):
        self.tells((fs(0, 0, 1, 1), fs(3, 7)), taken_out, 1, fs(0, 0, Fraction(1, 2), 1, 1), fs(3, 5, 7), 2)
        self.refuses(NoKnot, {"number": 2}, taken_out, 1, fs(0, 0, Fraction(1, 2), 1, 1), fs(3, 6, 7), 2)

    def test_no_knot_inside(self):
        for degree, knots in all_knots(488, 1):
            many = len(knots) - 1 - degree
            # A level row needs no knot, but those not inside stay.
            shares = ((1, 1),) * many
            low, high = own_stretch(degree, knots)
            for k in (-1, -2, -len(knots), len(knots), len(knots) + 1, 10 ** 29, -10 ** 29):
                self.refuses(NoKnot, {"number": k}, taken_out, degree, knots, shares, k)
            for k, one in enumerate(knots):
                if low < q(one) < high:
                    due = ((*knots[:k], *knots[k + 1:]), shares[1:])
                    self.tells(due, taken_out, degree, knots, shares, k)
                else:
                    self.refuses(NoKnot, {"number": k}, taken_out, degree, knots, shares, k)


if __name__ == "__main__":
    unittest.main()
