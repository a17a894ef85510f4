"""Heights met, and papers of how often: [74], [75]."""

import random
import unittest
from fractions import Fraction

from gentlebends.errors import NoPaper
from gentlebends.meetchecker import lets_meets
from gentlebends.meeting import meets_paper
from helpers import ODD_THINGS, Asking, deep_thing, f, fraction, fs, lucas_pair, q, row_value, spoiled, spread
from rowhelpers import cut_heights, many_rows, own_halved, times_met, with_own_cuts
from test_heading import all_own_heads
from test_sides import own_turns
from test_topping import ARCH, ROOF, TINY, WAVE


def overs(some, height):
    return [[head - height for head in four] for four in all_own_heads(some)]


def unclear(some, height):
    """The numbers of the pieces whose HEADS, less the height, are all nought or TURN oftener than once."""
    return [k for k, four in enumerate(overs(some, height)) if not any(four) or own_turns(four) > 1]


def some_height(chance, some):
    """A height that a row has here or there, or any."""
    heights = cut_heights(some)
    x = chance.choice(spread(some[0][0], some[0][-1], 17))
    return chance.choice([*heights, row_value(some, x), (max(heights) + min(heights)) / 2, q(fraction(chance)), max(heights) + 99])


class Papers(Asking, unittest.TestCase):

    def look_at(self, some, height, many):
        paper = self.told(meets_paper, some, f(height), many)
        halved = own_halved(some, many)
        if unclear(halved, height):
            self.assertEqual(paper, ("open",))
            self.refuses(NoPaper, {"word": "shape", "number": -1}, lets_meets, some, f(height), paper)
            return None
        self.assertEqual(paper[0], "meets")
        self.assertEqual(paper[2], times_met(some, height))
        self.tells(True, lets_meets, some, f(height), paper)
        return paper[2]

    def test_by_the_words(self):
        chance = random.Random(730)
        told = {}
        for some in many_rows(731, 2):
            for many in range(4):
                for time in range(3):
                    number = self.look_at(some, some_height(chance, some), many)
                    told[number] = told.get(number, 0) + 1
        self.assertGreater(min(told[number] for number in (None, 0, 1, 2, 3)), 10)

    def test_by_hand(self):
        half, third = Fraction(1, 2), Fraction(1, 3)
        for some, height, many, due in (
                (ARCH, 2, 0, 0), (ARCH, half, 0, None), (ARCH, half, 1, 2), (ARCH, 0, 0, 2), (ARCH, 0, 3, 2), (ARCH, 1, 0, None),
                # Touched at a cut of the halved row it is counted there.
                (ARCH, 1, 1, 1), (ARCH, 1, 3, 1), (ARCH, -half, 0, 0), (ROOF, half, 0, 2), (ROOF, 1, 0, None), (ROOF, 1, 3, None),
                (ROOF, 0, 0, 2), (ROOF, 2, 0, 0), (WAVE, 0, 0, 3), (WAVE, third, 1, 2), (WAVE, 1, 1, 1), (WAVE, -1, 1, 1),
                ((fs(0, 1), (fs(0, 1),)), 0, 0, 1), ((fs(0, 1), (fs(0, 1),)), 1, 0, 1), ((fs(0, 1), (fs(0, 1),)), half, 0, 1),
                ((fs(0, 1), (fs(0, 1),)), half, 1, 1), ((fs(0, 1), ((),)), 0, 0, None), ((fs(0, 1), ((),)), 1, 0, 0),
                ((fs(0, 1), (fs(0, 0, 0, 1),)), 0, 0, 1), ((fs(-1, 1), (fs(-1, 3, -3, 1),)), 0, 1, 1)):
            self.assertEqual(self.look_at(some, Fraction(height), many), due, (some, height, many))

    def test_touched_where_no_halving_comes(self):
        # (3 t - 1) ** 2 touches nought at 1 / 3: there it stays open, a hair beside it is clear at last.
        some = (fs(0, 1), (fs(1, -6, 9),))
        for many in range(4):
            self.assertIsNone(self.look_at(some, Fraction(0), many))
        self.assertEqual(self.look_at(some, Fraction(-1), 3), 0)
        self.assertEqual(self.look_at(some, Fraction(1, 4), 3), 2)

    def test_both_ends(self):
        some = (fs(0, 3), (fs(0, 2, -3, 1),))
        self.assertEqual(times_met(some, Fraction(0)), 3)
        self.assertIn(self.look_at(some, Fraction(0), 2), (None, 3))
        self.assertEqual(self.look_at((fs(0, 1, 2), (fs(0, 1), fs(1, -1))), Fraction(0), 2), 2)


class Checker(Asking, unittest.TestCase):

    def no_paper(self, word, number, some, height, thing):
        self.refuses(NoPaper, {"word": word, "number": number}, lets_meets, some, height, thing)

    def test_any_cuts(self):
        chance = random.Random(740)
        seen = {"lets": 0, "piece": 0}
        for some in many_rows(741):
            begin, end = q(some[0][0]), q(some[0][-1])
            for time in range(12):
                parts = {begin + (end - begin) * Fraction(chance.randint(1, 96), 97) for k in range(chance.randint(0, 9))}
                own = [q(cut) for cut in some[0][1:-1] if chance.random() < 0.5]
                cuts = tuple(f(cut) for cut in sorted({*parts, *own}))
                height = some_height(chance, some)
                wrong = unclear(with_own_cuts(some, cuts), height)
                many = times_met(some, height)
                if wrong:
                    for told in (0, 1, many or 0):
                        self.no_paper("piece", wrong[0], some, f(height), ("meets", cuts, told))
                    seen["piece"] += 1
                    continue
                self.tells(True, lets_meets, some, f(height), ("meets", cuts, many))
                for told in {0, many - 1, many + 1, 10 ** 29} - {many, -1}:
                    self.no_paper("many", many, some, f(height), ("meets", cuts, told))
                seen["lets"] += 1
        self.assertGreater(min(seen.values()), 60)

    def test_by_hand(self):
        half = f(1, 2)
        self.no_paper("piece", 0, ARCH, half, ("meets", (), 2))
        self.tells(True, lets_meets, ARCH, half, ("meets", (half,), 2))
        self.no_paper("many", 2, ARCH, half, ("meets", (half,), 1))
        self.no_paper("many", 2, ARCH, half, ("meets", (half,), 0))
        self.no_paper("many", 1, ARCH, (1, 1), ("meets", (half,), 2))
        self.tells(True, lets_meets, ARCH, (1, 1), ("meets", (half,), 1))
        self.no_paper("piece", 1, ARCH, (1, 1), ("meets", (f(1, 4),), 1))
        self.tells(True, lets_meets, ROOF, half, ("meets", (), 2))
        # Cuts of the row itself change nothing.
        for cuts in (fs(1), fs(2), fs(1, 2), fs(Fraction(1, 2), 1, 3)):
            self.tells(True, lets_meets, ROOF, half, ("meets", cuts, 2))
        # A piece that lies at the height, however it is cut.
        for cuts, k in (((), 1), (fs(Fraction(1, 2)), 2), (fs(Fraction(3, 2)), 1), (fs(Fraction(1, 2), Fraction(3, 2)), 2)):
            self.no_paper("piece", k, ROOF, (1, 1), ("meets", cuts, 2))
        self.no_paper("piece", 0, (fs(0, 1), ((),)), (0, 1), ("meets", (), 0))

    def test_a_hair_above_and_below(self):
        half = f(1, 2)
        for height, due in ((1 - TINY, 2), (Fraction(1), 1), (1 + TINY, 0)):
            self.tells(True, lets_meets, ARCH, f(height), ("meets", (half,), due))
            self.no_paper("many", due, ARCH, f(height), ("meets", (half,), due + 1))
        for height, due in ((TINY, 2), (Fraction(0), 2), (-TINY, 0)):
            self.tells(True, lets_meets, ROOF, f(height), ("meets", (), due))

    def test_the_piece_comes_ahead_of_the_number(self):
        self.no_paper("piece", 0, ARCH, (1, 2), ("meets", (), 99))

    def test_cuts_out_of_place(self):
        for cuts in (fs(0), fs(4), fs(-1), fs(5), fs(1, 1), fs(2, 1), fs(0, 1), fs(1, 4), (f(-TINY),), (f(4 + TINY),)):
            self.no_paper("shape", -1, ROOF, (1, 2), ("meets", cuts, 2))

    def test_shape_of_odd_things(self):
        good = ("meets", fs(1, 3), 2)
        self.tells(True, lets_meets, ROOF, (1, 2), good)
        for thing in (*ODD_THINGS, deep_thing(), list(good), good[:2], (*good, 1), ("meets", (), True), ("meets", (), -1),
                      ("meets", (), None), ("meets", (), "2"), ("meets", (), (2, 1)), ("meets", (), [2]), ("meets", [], 2),
                      ("meets", None, 2), ("meets", (1, 1), 2), ("meets", ((1, True),), 2), ("meets", ((2, 2),), 2), ("meet", (), 2),
                      (["meets"], (), 2), (None, (), 2), ("meets", 2, ()), ((), "meets", 2), dict(enumerate(good)), ("open",),
                      ("below", ()), ("meets", (), -10 ** 3999), ("meets", ([1, 1],), 2), ("meets", (), False)):
            self.no_paper("shape", -1, ROOF, (1, 2), thing)
            self.no_paper("shape", -1, ROOF, (9, 1), thing)

    def test_one_wrong_kind_anywhere(self):
        good = ("meets", fs(Fraction(3, 2), Fraction(7, 2)), 2)
        self.tells(True, lets_meets, ROOF, (1, 2), good)
        for path, thing in spoiled(good):
            # One cut fewer is a paper, too.
            if thing != ("meets", good[1][:-1], 2):
                self.no_paper("shape", -1, ROOF, (1, 2), thing)

    def test_great_numbers(self):
        a, b = lucas_pair(4000)
        self.tells(True, lets_meets, (fs(0, 1), (fs(0, 1),)), (1, 2), ("meets", ((a, b),), 1))
        self.no_paper("many", 1, (fs(0, 1), (fs(0, 1),)), (1, 2), ("meets", ((a, b),), 10 ** 3999))
        self.no_paper("shape", -1, ARCH, (1, 2), ("meets", ((b, a),), 1))

    def test_heads_turn_as_often_as_roots_or_an_even_number_oftener(self):
        chance = random.Random(742)
        for some in many_rows(743):
            height = some_height(chance, some)
            for k, four in enumerate(overs(some, height)):
                piece = (some[0][k:k + 2], some[1][k:k + 1])
                if four[0] != 0 and four[3] != 0 and any(four):
                    met = times_met(piece, height)
                    self.assertLessEqual(met, own_turns(four))


if __name__ == "__main__":
    unittest.main()
