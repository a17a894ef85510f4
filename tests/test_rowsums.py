"""ROWs added, multiplied, moved, mirrored: [21], [22]."""

import random
import unittest

from gentlebends.errors import NoStretch
from gentlebends.rows import is_row
from gentlebends.rowsums import mirrored_row, moved_row, row_scaled, row_sum
from helpers import Asking, f, fraction, fs, q, rising, row, row_over, row_value, spread

TENT = (fs(0, 1, 3), (fs(0, 2), fs(2, -1)))


def with_ends(chance, low, high, figures=2):
    """A ROW from low to high with inner cuts by chance."""
    inner = [f(x) for x in sorted(chance.sample(spread(low, high, 14)[1:-1], chance.randint(0, 5)))]
    return row_over(chance, (low, *inner, high), chance.randint(0, 3), figures)


class Sums(Asking, unittest.TestCase):

    def test_sum(self):
        chance = random.Random(60)
        for time in range(60):
            figures = chance.choice((1, 2, 12))
            low, high = rising(chance, 2, figures)
            one, other = with_ends(chance, low, high, figures), with_ends(chance, low, high, figures)
            both = self.told(row_sum, one, other)
            self.assertTrue(is_row(both))
            self.assertEqual([q(c) for c in both[0]], sorted({q(c) for c in (*one[0], *other[0])}))
            for x in (*spread(low, high, 15), *[q(c) for c in both[0]]):
                self.assertEqual(row_value(both, x), row_value(one, x) + row_value(other, x))
            self.tells(both, row_sum, other, one)

    def test_sum_keeps_cuts_where_nothing_is_left(self):
        other = (TENT[0], (fs(0, -2), fs(-2, 1)))
        self.tells((TENT[0], ((), ())), row_sum, TENT, other)

    def test_unlike_stretches(self):
        for cuts in (fs(0, 2), fs(1, 3), fs(-1, 4), fs(1, 2), fs(5, 6), ((0, 1), (3 * 10 ** 11 + 1, 10 ** 11))):
            self.refuses(NoStretch, {}, row_sum, TENT, (cuts, ((),)))
            self.refuses(NoStretch, {}, row_sum, (cuts, ((),)), TENT)

    def test_scaled(self):
        chance = random.Random(61)
        for time in range(40):
            some = row(chance)
            by = fraction(chance)
            more = self.told(row_scaled, some, by)
            self.assertTrue(is_row(more))
            self.assertEqual(more[0], some[0])
            for x in spread(some[0][0], some[0][-1]):
                self.assertEqual(row_value(more, x), q(by) * row_value(some, x))

    def test_scaled_by_nought(self):
        self.tells((TENT[0], ((), ())), row_scaled, TENT, (0, 1))
        chance = random.Random(62)
        some = row(chance, 12)
        self.tells((some[0], ((),) * 12), row_scaled, some, (0, 1))


class Moved(Asking, unittest.TestCase):

    def test_moved(self):
        chance = random.Random(63)
        for time in range(40):
            some = row(chance, None, 0, chance.choice((2, 12)))
            a = chance.choice((fraction(chance), (0, 1)))
            more = self.told(moved_row, some, a)
            self.assertTrue(is_row(more))
            self.assertEqual([q(c) for c in more[0]], [q(c) + q(a) for c in some[0]])
            for x in spread(some[0][0], some[0][-1]):
                self.assertEqual(row_value(more, x + q(a)), row_value(some, x))
            self.tells(some, moved_row, more, f(-q(a)))

    def test_mirrored(self):
        chance = random.Random(64)
        for time in range(40):
            some = row(chance, None, chance.randint(0, 3), chance.choice((2, 12)))
            more = self.told(mirrored_row, some)
            self.assertTrue(is_row(more))
            self.assertEqual([q(c) for c in more[0]], [-q(c) for c in reversed(some[0])])
            for x in spread(some[0][0], some[0][-1]):
                self.assertEqual(row_value(more, -x), row_value(some, x))
            self.tells(some, mirrored_row, more)

    def test_tent(self):
        self.tells((fs(-3, -1, 0), (fs(0, 1), fs(2, -2))), mirrored_row, TENT)
        self.tells((fs(5, 6, 8), TENT[1]), moved_row, TENT, (5, 1))


if __name__ == "__main__":
    unittest.main()
