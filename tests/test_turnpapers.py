"""The papers of turns and their checker: [59], [60], [61]."""

import random
import unittest
from fractions import Fraction

from gentlebends.cutting import are_one, with_cut
from gentlebends.errors import NoKnots, NoPaper, NoPlace
from gentlebends.putting import put_all
from gentlebends.rows import is_row
from gentlebends.rowsums import row_scaled
from gentlebends.shares import row_of_shares, shares_of_row
from gentlebends.sides import turns_in
from gentlebends.turnchecker import lets_turns
from gentlebends.turnpapers import turns_paper
from helpers import ODD_THINGS, Asking, deep_thing, f, fs, lucas_pair, q, replaced, row_value, spoiled
from knothelpers import all_knots, own_fault, own_stretch, places_in, some_shares
from test_putting import free_places
from test_shares import row_of_knots
from test_sides import own_turns

KNOTS = fs(0, 0, 0, 1, 3, 3, 3)
SHARES = fs(2, -1, 4, -6)
ROW = row_of_shares(2, KNOTS, SHARES)
PAPER = ("turns", KNOTS, SHARES)


class Checker(Asking, unittest.TestCase):

    def no_paper(self, word, degree, row, many, thing):
        self.refuses(NoPaper, {"word": word, "number": -1}, lets_turns, degree, row, many, thing)

    def test_let_by(self):
        chance = random.Random(550)
        for figures in (1, 2, 30):
            for degree, knots in all_knots(551 + figures, 2):
                shares = some_shares(chance, degree, knots, figures)
                row, turns = row_of_shares(degree, knots, shares), turns_in(shares)
                paper = ("turns", knots, shares)
                self.tells(True, lets_turns, degree, row, turns, paper)
                self.tells(True, lets_turns, degree, row, 10 ** 29, paper)
                for many in range(turns):
                    self.no_paper("turns", degree, row, many, paper)

    def test_rows_with_other_cuts(self):
        row = ROW
        for x in ((1, 2), (2, 1), (5, 2)):
            row = with_cut(row, x)
            self.tells(True, lets_turns, 2, row, 3, PAPER)
        self.no_paper("turns", 2, row, 2, PAPER)
        # A row of one polynomial, and knots that it doesn't need.
        straight = (fs(0, 3), (fs(-1, 1),))
        paper = ("turns", KNOTS, shares_of_row(2, KNOTS, straight))
        self.tells(True, lets_turns, 2, straight, 1, paper)

    def test_nought(self):
        nought = (fs(0, 3), ((),))
        self.tells(True, lets_turns, 2, nought, 0, ("turns", KNOTS, fs(0, 0, 0, 0)))
        self.no_paper("row", 2, nought, 0, PAPER)

    def test_another_row(self):
        chance = random.Random(555)
        for degree, knots in all_knots(556, 1):
            shares = some_shares(chance, degree, knots)
            row = row_of_shares(degree, knots, shares)
            for k in range(len(shares)):
                other = replaced(shares, (k,), f(q(shares[k]) + Fraction(1, 10 ** 30)))
                self.no_paper("row", degree, row, 99, ("turns", knots, other))
                self.no_paper("row", degree, row_of_shares(degree, knots, other), 0, ("turns", knots, shares))
        self.no_paper("row", 2, row_scaled(ROW, (-1, 1)), 3, PAPER)

    def test_another_stretch(self):
        for begin, end in ((0, 2), (0, 4), (-1, 3), (1, 3), (5, 9)):
            self.no_paper("row", 2, (fs(begin, end), ((),)), 0, ("turns", KNOTS, fs(0, 0, 0, 0)))
        # The STRETCH counts, not the first knot and the last.
        knots = fs(-1, 0, 0, 1, 3, 3, 4)
        self.no_paper("row", 2, (fs(-1, 4), ((),)), 0, ("turns", knots, fs(0, 0, 0, 0)))
        self.tells(True, lets_turns, 2, (fs(0, 3), ((),)), 0, ("turns", knots, fs(0, 0, 0, 0)))

    def test_the_row_comes_ahead_of_the_turns(self):
        self.no_paper("row", 2, ROW, 0, ("turns", KNOTS, fs(2, -1, 4, -7)))

    def test_shape_of_odd_things(self):
        short = fs(0, 0, 0, 1, 3, 3)
        for thing in (*ODD_THINGS, deep_thing(), list(PAPER), PAPER[:2], (*PAPER, ()), ("turn", KNOTS, SHARES),
                      (["turns"], KNOTS, SHARES), (None, KNOTS, SHARES), ("turns", SHARES, KNOTS), dict(enumerate(PAPER)),
                      ("turns", list(KNOTS), SHARES), ("turns", KNOTS, list(SHARES)), ("turns", KNOTS, SHARES[:-1]),
                      ("turns", KNOTS, (*SHARES, (0, 1))), ("turns", KNOTS, ()), ("turns", KNOTS, None), ("turns", None, SHARES),
                      ("turns", (), ()), ("turns", short[:5], SHARES[:2]), ("turns", KNOTS, (*SHARES[:3], (4, 2))),
                      ("turns", KNOTS, (*SHARES[:3], (True, 1))), ("turns", KNOTS[::-1], SHARES), ("turns", KNOTS, 4),
                      ("turns", fs(0, 0, 0, 0, 3, 3, 3), SHARES), ("turns", fs(0, 0, 0, 3, 3, 3, 3), SHARES),
                      ("turns", fs(0, 0, 0, 1, 1, 1, 3, 3, 3), fs(1, 1, 1, 1, 1, 1)), ROW, KNOTS, SHARES):
            self.no_paper("shape", 2, ROW, 3, thing)

    def test_one_wrong_kind_anywhere(self):
        for path, thing in spoiled(PAPER):
            here = thing[1] if isinstance(thing, tuple) and len(thing) > 1 else None
            kinds = type(here) is tuple and all(type(one) is tuple and len(one) == 2 for one in here)
            if path[:1] == (1,) and kinds and all(type(n) is int for one in here for n in one):
                # Another knot may be a right one: then the number of shares, or the row, is wrong.
                continue
            self.no_paper("shape", 2, ROW, 3, thing)

    def test_knots_of_another_degree(self):
        for degree, knots in all_knots(557, 1):
            for other in {1, 2, 3} - {degree}:
                many = len(knots) - 1 - other
                is_wrong = len(knots) < 2 * other + 2 or own_fault(other, knots) is not None
                stretch = (fs(*own_stretch(other, knots)), ((),)) if not is_wrong else ROW
                paper = ("turns", knots, fs(*[0] * max(many, 0)))
                if is_wrong:
                    self.no_paper("shape", other, stretch, 0, paper)
                else:
                    self.tells(True, lets_turns, other, stretch, 0, paper)

    def test_great_numbers(self):
        a, b = lucas_pair(4000)
        knots = ((0, 1), (0, 1), (a, b), (1, 1), (1, 1))
        self.no_paper("row", 1, (fs(0, 1), (fs(1, 1),)), 0, ("turns", knots, ((1, 1), (b, a), (2, 1))))
        row = row_of_shares(1, knots, ((1, 1), (b, a), (-2, 1)))
        self.assertTrue(is_row(row))
        self.tells(True, lets_turns, 1, row, 1, ("turns", knots, ((1, 1), (b, a), (-2, 1))))

    def test_values_turn_at_most_so_often(self):
        chance = random.Random(558)
        for degree, knots in all_knots(559, 2):
            shares = some_shares(chance, degree, knots)
            row = row_of_shares(degree, knots, shares)
            turns = turns_in(shares)
            self.assertTrue(lets_turns(degree, row, turns, ("turns", knots, shares)))
            low, high = own_stretch(degree, knots)
            places = sorted(low + (high - low) * Fraction(chance.randint(0, 997), 997) for k in range(25))
            self.assertLessEqual(own_turns([row_value(row, x) for x in places]), turns)


class Papers(Asking, unittest.TestCase):

    def test_told_papers_are_let_by(self):
        chance = random.Random(560)
        for figures in (1, 2, 30):
            for degree, knots in all_knots(561 + figures, 1):
                shares = some_shares(chance, degree, knots, figures)
                row = row_of_shares(degree, knots, shares)
                for many in range(5):
                    places = tuple(free_places(chance, degree, knots, many))
                    paper = self.told(turns_paper, degree, knots, row, places)
                    self.assertEqual(paper, ("turns", *put_all(degree, knots, shares, places)))
                    turns = turns_in(paper[2])
                    self.tells(True, lets_turns, degree, row, turns, paper)
                    self.assertLessEqual(turns, turns_in(shares))
                    if turns > 0:
                        self.refuses(NoPaper, {"word": "turns", "number": -1}, lets_turns, degree, row, turns - 1, paper)

    def test_rows_with_cuts_that_are_no_knots(self):
        chance = random.Random(566)
        for degree, knots in all_knots(567, 2):
            row = row_of_knots(chance, degree, knots)
            for places in ((), tuple(free_places(chance, degree, knots, 2))):
                word, more, shares = self.told(turns_paper, degree, knots, row, places)
                self.assertEqual(more, tuple(sorted([*knots, *places], key=q)))
                self.assertTrue(are_one(row_of_shares(degree, more, shares), row))
                self.tells(True, lets_turns, degree, row, turns_in(shares), (word, more, shares))

    def test_no_places(self):
        self.tells(PAPER, turns_paper, 2, KNOTS, ROW, ())

    def test_more_knots_may_show_fewer_turns(self):
        # (x - 1) ** 2 + 1 / 2 is everywhere above nought, but a share of it is not: with a knot put in at 1 all are.
        knots, row = fs(0, 0, 0, 2, 2, 2), (fs(0, 2), (fs(Fraction(3, 2), -2, 1),))
        self.tells(("turns", knots, (f(3, 2), f(-1, 2), f(3, 2))), turns_paper, 2, knots, row, ())
        more = self.told(turns_paper, 2, knots, row, ((1, 1),))
        self.tells(True, lets_turns, 2, row, 0, more)
        self.assertEqual(turns_in(more[2]), 0)

    def test_refused_as_the_row_then_as_the_places(self):
        def no_knots(word, number, row, places):
            self.refuses(NoKnots, {"word": word, "number": number}, turns_paper, 2, KNOTS, row, places)
        for places in ((), fs(9), fs(1, 1), fs(0)):
            no_knots("stretch", -1, (fs(0, 4), ((),)), places)
            no_knots("degree", 0, (fs(0, 3), (fs(0, 0, 0, 1),)), places)
            no_knots("degree", 1, (fs(0, 1, 3), ((), fs(0, 0, 0, 1))), places)
            no_knots("smooth", 1, (fs(0, 1, 3), ((), fs(0, 1))), places)
            no_knots("smooth", 1, (fs(0, 2, 3), ((), fs(0, 0, 1))), places)
        for places, x in ((fs(9), 9), (fs(0), 0), (fs(3), 3), (fs(2, -1, 9), -1), (fs(2, 2, 5, 1, 1), 5)):
            self.refuses(NoPlace, {"place": f(x)}, turns_paper, 2, KNOTS, ROW, places)
        no_knots("often", 3, ROW, fs(1, 1))
        no_knots("often", 4, ROW, fs(2, 2, 2, 9))
        no_knots("often", 3, ROW, fs(1, 1, 9))

    def test_the_value_put_in_often_is_a_share(self):
        chance = random.Random(568)
        for degree, knots in all_knots(569, 1):
            row = row_of_shares(degree, knots, some_shares(chance, degree, knots))
            for x in places_in(degree, knots)[1:-1]:
                word, more, shares = turns_paper(degree, knots, row, (f(x),) * (degree - knots.count(f(x))))
                self.assertIn(f(row_value(row, x)), shares)


if __name__ == "__main__":
    unittest.main()
