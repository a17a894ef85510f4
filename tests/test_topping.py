"""The highest of rows, and papers of nowhere above: [71], [72], [73]."""

import random
import unittest
from fractions import Fraction

from gentlebends.errors import NoPaper
from gentlebends.topchecker import lets_below
from gentlebends.topping import below_paper, highest_of
from helpers import ODD_THINGS, Asking, deep_thing, f, fraction, fs, lucas_pair, q, replaced, row_value, spoiled, spread
from rowhelpers import cut_heights, many_rows, own_halved, with_own_cuts
from test_heading import all_own_heads

TINY = Fraction(1, 10 ** 12)
# 4 t (1 - t) is nought at both ends and 1 in the middle; its heads are 0, 4 / 3, 4 / 3, 0.
ARCH = (fs(0, 1), (fs(0, 4, -4),))
# From 0 up to 1, level at 1, down to 0: straight pieces, the heads of which lie on them.
ROOF = (fs(0, 1, 2, 4), (fs(0, 1), fs(1), fs(1, Fraction(-1, 2))))
WAVE = (fs(0, 1, 2), (fs(0, 4, -4), fs(0, -4, 4)))


def own_highest(some, many):
    halved = own_halved(some, many)
    return max(cut_heights(halved)), max(head for four in all_own_heads(halved) for head in four)


def size_of_bends(some):
    """M of [71]."""
    return max(max(abs(a + c - 2 * b), abs(b + d - 2 * c)) for a, b, c, d in all_own_heads(some))


class Highest(Asking, unittest.TestCase):

    def test_by_the_words(self):
        for some in many_rows(700):
            for many in range(5):
                self.tells(fs(*own_highest(some, many)), highest_of, some, many)

    def test_between_low_and_high(self):
        for some in many_rows(701):
            for many in (0, 2):
                low, high = [q(one) for one in highest_of(some, many)]
                for k in range(len(some[1])):
                    for x in spread(some[0][k], some[0][k + 1], 21):
                        self.assertLessEqual(row_value(some, x), high)
                self.assertLessEqual(low, high)

    def test_more_halvings_tell_no_worse(self):
        nearer = 0
        for some in many_rows(702):
            told = [[q(one) for one in highest_of(some, many)] for many in range(5)]
            for (low, high), (next_low, next_high) in zip(told, told[1:]):
                self.assertTrue(low <= next_low <= next_high <= high)
                nearer += next_high < high
            for many, (low, high) in enumerate(told):
                self.assertLessEqual(high - low, size_of_bends(some) / 4 ** many)
        self.assertGreater(nearer, 40)

    def test_by_hand(self):
        for many, due in ((0, (0, f(4, 3))), (1, (1, 1))):
            self.tells(tuple(one if type(one) is tuple else f(one) for one in due), highest_of, ARCH, many)
        for many in range(5):
            self.tells(fs(1, 1), highest_of, ROOF, many)
            self.tells(fs(-3, -3), highest_of, (fs(0, 1), (fs(-3),)), many)
            self.tells(fs(0, 0), highest_of, (fs(0, 1), ((),)), many)
        # Below nought the greatest is the one nearest to it, and the last cut counts, too.
        self.tells(fs(-1, -1), highest_of, (fs(0, 1), (fs(-5, 4),)), 0)


class Papers(Asking, unittest.TestCase):

    def look_at(self, some, bound, many, highest=None):
        """Look at what is told of a row, a bound and many: its word is told back."""
        paper = self.told(below_paper, some, f(bound), many)
        low, high = highest or own_highest(some, many)
        due = "above" if low > bound else "below" if high <= bound else "open"
        self.assertEqual(paper[0], due)
        if due == "open":
            self.assertEqual(paper, ("open",))
            self.refuses(NoPaper, {"word": "shape", "number": -1}, lets_below, some, f(bound), paper)
        else:
            self.tells(True, lets_below, some, f(bound), paper)
        if due == "above":
            self.assertGreater(row_value(some, q(paper[1])), bound)
        return due

    def test_by_the_words(self):
        chance = random.Random(710)
        words = {}
        for some in many_rows(711):
            for many in range(5):
                low, high = own_highest(some, many)
                for bound in (low, high, (low + high) / 2, low - TINY, low + TINY, high - TINY, high + TINY, q(fraction(chance))):
                    word = self.look_at(some, bound, many, (low, high))
                    words[word] = words.get(word, 0) + 1
        self.assertGreater(min(words[word] for word in ("above", "below", "open")), 100)

    def test_by_hand(self):
        self.tells(("open",), below_paper, ARCH, (1, 1), 0)
        self.tells(("open",), below_paper, ARCH, (1, 2), 0)
        self.tells(("above", (1, 2)), below_paper, ARCH, (1, 2), 1)
        self.assertEqual(self.look_at(ARCH, Fraction(1), 1), "below")
        self.assertEqual(self.look_at(ARCH, 1 - TINY, 1), "above")
        self.assertEqual(self.look_at(ARCH, Fraction(4, 3), 0), "below")
        self.assertEqual(self.look_at(ARCH, Fraction(4, 3) - TINY, 0), "open")
        self.assertEqual(self.look_at(ARCH, -TINY, 0), "above")
        self.assertEqual(self.look_at(ARCH, Fraction(0), 0), "open")
        self.assertEqual(self.look_at(ROOF, Fraction(1), 0), "below")
        self.assertEqual(self.look_at(ROOF, 1 - TINY, 0), "above")

    def test_last_cut_alone_above(self):
        rising = (fs(0, 1, 2), ((), fs(0, 0, 1)))
        self.tells(("above", (2, 1)), below_paper, rising, (1, 2), 0)
        self.tells(("above", (0, 1)), below_paper, (fs(0, 1), (fs(5, -9),)), (4, 1), 3)


class Checker(Asking, unittest.TestCase):

    def no_paper(self, word, number, some, bound, thing):
        self.refuses(NoPaper, {"word": word, "number": number}, lets_below, some, bound, thing)

    def test_any_cuts(self):
        chance = random.Random(720)
        seen = {None: 0, "piece": 0}
        for some in many_rows(721):
            begin, end = q(some[0][0]), q(some[0][-1])
            for time in range(6):
                parts = {begin + (end - begin) * Fraction(chance.randint(1, 96), 97) for k in range(chance.randint(0, 9))}
                own = [q(cut) for cut in some[0][1:-1] if chance.random() < 0.5]
                cuts = tuple(f(cut) for cut in sorted({*parts, *own}))
                heads = [max(four) for four in all_own_heads(with_own_cuts(some, cuts))]
                for bound in (max(heads), max(heads) + TINY, max(heads) - TINY, chance.choice(heads)):
                    above = [k for k, head in enumerate(heads) if head > bound]
                    if above:
                        self.no_paper("piece", above[0], some, f(bound), ("below", cuts))
                        seen["piece"] += 1
                    else:
                        self.tells(True, lets_below, some, f(bound), ("below", cuts))
                        self.assertTrue(all(row_value(some, x) <= bound for x in spread(f(begin), f(end), 29)))
                        seen[None] += 1
        self.assertGreater(min(seen.values()), 100)

    def test_pieces_by_hand(self):
        self.no_paper("piece", 0, ARCH, (1, 1), ("below", ()))
        self.tells(True, lets_below, ARCH, (4, 3), ("below", ()))
        self.tells(True, lets_below, ARCH, (1, 1), ("below", fs(Fraction(1, 2))))
        self.no_paper("piece", 0, ARCH, f(1 - TINY), ("below", fs(Fraction(1, 2))))
        self.no_paper("piece", 1, ARCH, (1, 1), ("below", fs(Fraction(1, 4))))
        self.no_paper("piece", 2, ARCH, (1, 1), ("below", fs(Fraction(1, 100), Fraction(1, 50))))
        # Cuts of the row itself change nothing.
        for cuts in ((), fs(1), fs(2), fs(1, 2)):
            self.tells(True, lets_below, ROOF, (1, 1), ("below", cuts))
            self.no_paper("piece", 0, ROOF, f(1 - TINY), ("below", cuts))
        self.no_paper("piece", 1, ROOF, (1, 2), ("below", fs(Fraction(1, 2), 2)))
        self.no_paper("piece", 0, WAVE, (1, 1), ("below", fs(1, Fraction(3, 2))))
        self.tells(True, lets_below, WAVE, (1, 1), ("below", fs(Fraction(1, 2), 1)))

    def test_places(self):
        for some in many_rows(722):
            for x in spread(some[0][0], some[0][-1], 5):
                value = row_value(some, x)
                self.tells(True, lets_below, some, f(value - TINY), ("above", f(x)))
                for bound in (value, value + TINY):
                    self.no_paper("place", -1, some, f(bound), ("above", f(x)))
            for x in (q(some[0][0]) - TINY, q(some[0][-1]) + TINY):
                self.no_paper("shape", -1, some, (-10 ** 9, 1), ("above", f(x)))

    def test_places_that_are_no_cuts(self):
        self.tells(True, lets_below, ARCH, f(1 - TINY), ("above", (1, 2)))
        self.no_paper("place", -1, ARCH, (1, 1), ("above", (1, 2)))
        self.no_paper("place", -1, ARCH, (0, 1), ("above", (0, 1)))

    def test_cuts_out_of_place(self):
        for cuts in (fs(0), fs(4), fs(-1), fs(5), fs(1, 1), fs(2, 1), fs(0, 1), fs(1, 4), fs(1, 2, 3, 3), fs(3, 2, 1),
                     (f(-TINY),), (f(4 + TINY),)):
            for bound in ((5, 1), (-5, 1)):
                self.no_paper("shape", -1, ROOF, bound, ("below", cuts))
        self.tells(True, lets_below, ROOF, (1, 1), ("below", fs(TINY, 1, 2, 4 - TINY)))

    def test_shape_of_odd_things(self):
        good = ("below", fs(1, 3))
        self.tells(True, lets_below, ROOF, (1, 1), good)
        for thing in (*ODD_THINGS, deep_thing(), list(good), good[:1], (*good, 1), (*good, ()), ("below", (1, 1)), ("below", (1,)),
                      ("below", [(1, 1)]), ("below", ((1, 1), (2, 2))), ("below", ((True, 1),)), ("below", None), ("below",),
                      ("Below", ()), (["below"], ()), ("open",), ("open", ()), ("above",), ("above", ()), ("above", fs(1)),
                      ("above", [1, 1]), ("above", 1), ("above", (2, 2)), ("above", (1, True)), ("above", None), ((), "below"),
                      ("above", (1, 1), ()), ("meets", (), 0), dict(enumerate(good)), "below", ("below", {})):
            for bound in ((1, 1), (-9, 1)):
                self.no_paper("shape", -1, ROOF, bound, thing)

    def test_one_wrong_kind_anywhere(self):
        for good, bound in ((("below", fs(Fraction(3, 2), Fraction(7, 2))), (1, 1)), (("above", (3, 2)), (0, 1))):
            self.tells(True, lets_below, ROOF, bound, good)
            for path, thing in spoiled(good):
                # One cut fewer is a paper, too.
                if thing != ("below", good[1][:-1]):
                    self.no_paper("shape", -1, ROOF, bound, thing)

    def test_great_numbers(self):
        a, b = lucas_pair(4000)
        self.tells(True, lets_below, ARCH, (4, 3), ("below", ((a, b),)))
        self.tells(True, lets_below, ARCH, (0, 1), ("above", (a, b)))
        self.no_paper("piece", 0, ARCH, (1, 4), ("below", ((a, b),)))
        self.no_paper("shape", -1, ARCH, (4, 3), ("below", ((b, a),)))
        self.no_paper("shape", -1, ARCH, (4, 3), ("above", (2 * a, 2 * b)))

    def test_many_cuts(self):
        cuts = tuple(f(k, 101) for k in range(1, 101))
        self.tells(True, lets_below, ARCH, f(10201 + 1, 10201), ("below", cuts))
        self.no_paper("piece", 50, ARCH, (1, 1), ("below", cuts))
        self.no_paper("shape", -1, ARCH, (9, 1), ("below", replaced(cuts, (70,), cuts[69])))


if __name__ == "__main__":
    unittest.main()
