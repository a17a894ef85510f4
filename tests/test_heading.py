"""The heads of rows, and rows halved: [70]."""

import random
import unittest
from fractions import Fraction

from gentlebends.bending import under_row
from gentlebends.cutting import are_one, bare_row, part_of
from gentlebends.heading import halved_row, heads_of
from gentlebends.rows import is_row
from helpers import Asking, f, fs, poly, poly_value, q, row, row_value, spread


def rows(seed, times=2, counts=(1, 2, 3, 5), sizes=(1, 2, 15)):
    """Rows of one to five pieces, degrees none to three among them, with numbers of up to fifteen figures."""
    chance = random.Random(seed)
    for figures in sizes:
        for pieces in counts:
            for time in range(times):
                yield row(chance, pieces, chance.randint(0, 3), figures)
            yield row(chance, 1, 0, figures)[:1] + ((poly(chance, figures, chance.randint(0, 4)),),)


def own_heads(piece, d):
    """The HEADS of a POLY up to d, by the words of [70], of Python's own numbers."""
    c0, c1, c2, c3 = [q(one) for one in piece] + [Fraction(0)] * (4 - len(piece))
    return (c0, c0 + c1 * d / 3, c0 + 2 * c1 * d / 3 + c2 * d ** 2 / 3, c0 + c1 * d + c2 * d ** 2 + c3 * d ** 3)


def all_own_heads(some):
    cuts, pieces = some
    return [own_heads(piece, q(cuts[k + 1]) - q(cuts[k])) for k, piece in enumerate(pieces)]


def own_cuts(some, many):
    """The cuts of a row halved many times, by the words of [70]."""
    cuts = []
    for low, high in zip(some[0], some[0][1:]):
        cuts += [f(x) for x in spread(low, high, 2 ** many + 1)[:-1]]
    return (*cuts, some[0][-1])


class Heads(Asking, unittest.TestCase):

    def test_by_the_words(self):
        for some in rows(650):
            self.tells(tuple(fs(*heads) for heads in all_own_heads(some)), heads_of, some)

    def test_values_lie_between_them(self):
        for some in rows(651):
            for k, heads in enumerate(heads_of(some)):
                own = [q(head) for head in heads]
                for x in spread(some[0][k], some[0][k + 1], 9):
                    value = poly_value(some[1][k], x - q(some[0][k]))
                    self.assertTrue(min(own) <= value <= max(own))

    def test_sum_beneath(self):
        for some in rows(652):
            for k, heads in enumerate(heads_of(some)):
                low, high = some[0][k], some[0][k + 1]
                due = (q(high) - q(low)) / 4 * sum(q(head) for head in heads)
                self.assertEqual(q(under_row(some, low, high)), due)

    def test_first_and_last_are_values_at_cuts(self):
        for some in rows(653):
            heads = heads_of(some)
            for k, four in enumerate(heads):
                self.assertEqual(q(four[0]), row_value(some, q(some[0][k])))
                self.assertEqual(q(four[3]), row_value(some, q(some[0][k + 1])))
                if k > 0:
                    self.assertEqual(heads[k - 1][3], four[0])

    def test_by_hand(self):
        self.tells((fs(0, 0, 0, 1),), heads_of, (fs(0, 1), (fs(0, 0, 0, 1),)))
        self.tells((fs(0, 0, 0, 0),), heads_of, (fs(5, 9), ((),)))
        self.tells((fs(7, 7, 7, 7), fs(7, 8, 9, 10)), heads_of, (fs(-1, 0, 3), (fs(7), fs(7, 1))))
        self.tells((fs(1, 1, 4, 10),), heads_of, (fs(0, 3), (fs(1, 0, 1),)))
        self.tells((fs(0, 1, -1, 0),), heads_of, (fs(0, 1), (fs(0, 3, -9, 6),)))


class Halved(Asking, unittest.TestCase):

    def test_by_the_words(self):
        for some in rows(660, 1):
            for many in range(5):
                halved = self.told(halved_row, some, many)
                self.assertTrue(is_row(halved))
                self.assertEqual(halved[0], own_cuts(some, many))
                for k in range(len(halved[1])):
                    for x in spread(halved[0][k], halved[0][k + 1], 4):
                        self.assertEqual(poly_value(halved[1][k], x - q(halved[0][k])), row_value(some, x))

    def test_one_with_the_row(self):
        for some in rows(661, 1, (1, 3, 4), (1, 15)):
            for many in (1, 4):
                halved = halved_row(some, many)
                self.assertTrue(are_one(halved, some))
                self.assertEqual(bare_row(halved), bare_row(some))

    def test_not_at_all(self):
        for some in rows(662):
            self.tells(some, halved_row, some, 0)

    def test_one_behind_the_other(self):
        for some in rows(663, 1, (1, 4), (2,)):
            self.tells(halved_row(some, 4), halved_row, halved_row(halved_row(some, 1), 2), 1)

    def test_parts(self):
        for some in rows(664, 1, (1, 3), (2,)):
            halved = halved_row(some, 2)
            for k in range(len(halved[1])):
                low, high = halved[0][k], halved[0][k + 1]
                self.assertEqual(part_of(some, low, high), ((low, high), halved[1][k:k + 1]))

    def test_by_hand(self):
        half = Fraction(1, 2)
        self.tells((fs(0, half, 1), (fs(0, 0, 1), fs(half * half, 1, 1))), halved_row, (fs(0, 1), (fs(0, 0, 1),)), 1)
        self.tells((fs(0, 1, 2, 4, 6), ((), (), fs(0, 1), fs(2, 1))), halved_row, (fs(0, 2, 6), ((), fs(0, 1))), 1)


if __name__ == "__main__":
    unittest.main()
