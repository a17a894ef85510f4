"""Levels and slope rows: [76]."""

import random
import unittest
from fractions import Fraction

from gentlebends.errors import NoSmooth
from gentlebends.leveling import levels_of, slope_row
from gentlebends.rows import is_row
from gentlebends.smoothing import smoothest_through
from helpers import Asking, f, fs, poly_bends, q, rising, row, spread, trimmed
from rowhelpers import many_rows, roots_between
from test_pulling import row_slope


def own_levels(some):
    told = []
    for k, piece in enumerate(some[1]):
        slope = [power * q(c) for power, c in enumerate(piece)][1:]
        told.append(roots_between(slope, q(some[0][k + 1]) - q(some[0][k])) if any(slope) else 3)
    return tuple(told)


def of_slope(d, *slope):
    """A ROW of one piece from 0 to d with this slope by rising power."""
    return (fs(0, d), (trimmed([5, *[Fraction(c) / (k + 1) for k, c in enumerate(slope)]]),))


class Levels(Asking, unittest.TestCase):

    def test_by_roots(self):
        seen = {}
        for some in many_rows(750, 8):
            due = own_levels(some)
            self.tells(due, levels_of, some)
            for number in due:
                seen[number] = seen.get(number, 0) + 1
        self.assertGreater(min(seen[number] for number in (0, 1, 2, 3)), 5)

    def test_slopes_by_chance(self):
        chance = random.Random(751)
        for time in range(400):
            slope = [chance.randint(-4, 4) for k in range(chance.randint(0, 3))]
            some = of_slope(f(chance.randint(1, 6), chance.randint(1, 3))[0], *slope)
            self.tells(own_levels(some), levels_of, some)

    def test_by_hand(self):
        for d, slope, due in (
                (1, (), 3), (1, (0,), 3), (1, (0, 0, 0), 3), (1, (7,), 0), (1, (-7,), 0),
                # Straight slopes: nought just at an end, inside, outside.
                (1, (0, 1), 0), (1, (-1, 1), 0), (1, (-1, 2), 1), (1, (-1, Fraction(1, 2)), 0), (1, (1, 1), 0), (1, (1, -3), 1),
                # Twice at one place: one place.
                (2, (1, -2, 1), 1), (2, (-1, 2, -1), 1), (1, (1, -2, 1), 0), (1, (0, 0, 1), 0), (1, (1, 2, 1), 0),
                # At both ends, at one and inside, both inside.
                (1, (0, -1, 1), 0), (2, (0, -1, 1), 1), (2, (2, -3, 1), 1), (3, (2, -3, 1), 2), (3, (-2, 3, -1), 2), (1, (2, -3, 1), 0),
                (5, (-6, 1, 1), 1), (2, (-6, 1, 1), 0), (Fraction(21, 10), (-6, 1, 1), 1),
                # At places that are no FRACTIONs: the roots of 2, and none at all.
                (2, (-2, 0, 1), 1), (1, (-2, 0, 1), 0), (4, (2, -4, 1), 2), (3, (2, -4, 1), 1), (4, (1, -1, 1), 0), (9, (5, 0, 1), 0)):
            self.tells((due,), levels_of, of_slope(d, *slope))

    def test_moved_pieces(self):
        some = (fs(-7, -6, -4, -1), (fs(0, 1), fs(1, 1, -1), fs(-1, -3, 1)))
        self.assertTrue(is_row(some))
        self.tells((0, 1, 1), levels_of, some)
        self.tells((3, 0, 3), levels_of, (fs(0, 1, 2, 3), (fs(4), fs(4, 0, 1), fs(5))))

    def test_great_numbers(self):
        # The two roots lie a hair beside the middle, and a hair more makes them none.
        size = 10 ** 14
        for c, due in ((Fraction(1, 4) - Fraction(1, size), 2), (Fraction(1, 4), 1), (Fraction(1, 4) + Fraction(1, size), 0)):
            self.tells((due,), levels_of, of_slope(1, c, -1, 1))


class SlopeRows(Asking, unittest.TestCase):

    def test_by_the_words(self):
        chance = random.Random(760)
        for figures in (1, 2, 15):
            for pieces in (1, 2, 3, 5):
                for smooth in (1, 2, 3):
                    some = row(chance, pieces, smooth, figures)
                    slopes = self.told(slope_row, some)
                    self.assertTrue(is_row(slopes))
                    self.assertEqual(slopes[0], some[0])
                    for k, piece in enumerate(slopes[1]):
                        for x in spread(some[0][k], some[0][k + 1], 4):
                            t = x - q(some[0][k])
                            self.assertEqual(poly_bends(piece, t)[0], poly_bends(some[1][k], t)[1])

    def test_of_smoothest_rows(self):
        chance = random.Random(761)
        for many in (2, 4, 6):
            heights = tuple((place, (k * k, 3)) for k, place in enumerate(rising(chance, many)))
            some = smoothest_through(3, None, tuple((place, f(*value)) for place, value in heights))[1]
            once = self.told(slope_row, some)
            twice = self.told(slope_row, once)
            self.assertTrue(all(len(piece) <= 2 for piece in twice[1]))
            self.assertEqual(row_slope(some, q(some[0][0])), poly_bends(once[1][0], 0)[0])

    def test_unlike_slopes(self):
        chance = random.Random(762)
        for time in range(60):
            some = row(chance, chance.randint(1, 5), 0, 1)
            unlike = [k for k in range(1, len(some[1]))
                      if poly_bends(some[1][k - 1], q(some[0][k]) - q(some[0][k - 1]))[1] != poly_bends(some[1][k], 0)[1]]
            if unlike:
                self.refuses(NoSmooth, {"number": unlike[0]}, slope_row, some)
            else:
                self.told(slope_row, some)

    def test_by_hand(self):
        self.tells((fs(0, 1), ((),)), slope_row, (fs(0, 1), (fs(7),)))
        self.tells((fs(0, 1), ((),)), slope_row, (fs(0, 1), ((),)))
        self.tells((fs(0, 1, 2), ((), fs(0, 2))), slope_row, (fs(0, 1, 2), (fs(3), fs(3, 0, 1))))
        self.refuses(NoSmooth, {"number": 1}, slope_row, (fs(0, 1, 2), (fs(3), fs(3, 1))))
        self.refuses(NoSmooth, {"number": 2}, slope_row, (fs(0, 1, 2, 3, 4), (fs(0, 1), fs(1, 1), fs(2, 2), fs(4, 3))))


if __name__ == "__main__":
    unittest.main()
