"""PULLS and PRICES: [29], [30]."""

import random
import unittest
from fractions import Fraction

from gentlebends.bending import pairing_of
from gentlebends.pulling import prices_of, pulls_of
from helpers import FREE, Asking, all_tasks, f, fs, hermite_row, own_places, poly_bends, q, row_over, row_value, spread


def own_pulls(some, row):
    """The PULLS by the words of [29]."""
    cuts, pieces = row
    many = len(some[3])
    nought = (Fraction(0),) * 4
    pulls = []
    for k in range(many):
        ahead = behind = nought
        if k > 0 or some[1] is not None:
            j = (k - 1) % len(pieces)
            ahead = poly_bends(pieces[j], q(cuts[j + 1]) - q(cuts[j]))
        if k < len(pieces):
            behind = poly_bends(pieces[k], 0)
        if some[0] == 1:
            pulls.append((ahead[1] - behind[1], Fraction(0)))
        else:
            pulls.append((behind[3] - ahead[3], ahead[2] - behind[2]))
    return pulls


def row_slope(some, x):
    """The slope of a ROW behind a place, or at its end ahead of it."""
    cuts, pieces = some
    for k in range(len(pieces) - 1, -1, -1):
        if q(cuts[k]) <= x:
            return poly_bends(pieces[k], x - q(cuts[k]))[1]
    raise AssertionError("outside")


def other_row(chance, some):
    """A ROW of a TASK's stretch, smooth in its slopes, with other cuts; with a round alike at both ends."""
    places = own_places(some)
    inner = chance.sample(spread(places[0], places[-1], 17)[1:-1], 4)
    cuts = [f(x) for x in sorted({*inner, q(places[0]), q(places[-1])})]
    values = [Fraction(chance.randint(-9, 9), chance.randint(1, 5)) for cut in cuts]
    slopes = [Fraction(chance.randint(-9, 9), chance.randint(1, 5)) for cut in cuts]
    if some[1] is not None:
        values[-1], slopes[-1] = values[0], slopes[0]
    return hermite_row(cuts, values, slopes)


class Pulls(Asking, unittest.TestCase):

    def test_by_the_words(self):
        chance = random.Random(90)
        for figures in (2, 12, 30):
            for some in all_tasks(91 + figures, 1, (2, 3, 6), figures):
                row = row_over(chance, own_places(some), chance.randint(0, 2), figures)
                pulls = own_pulls(some, row)
                self.tells(tuple(fs(p, b) for p, b in pulls), pulls_of, some, row)
                prices = []
                for (place, wish, slope), (p, b) in zip(some[3], pulls):
                    a = q(some[2]) * p
                    if wish[0] == "near":
                        a += q(wish[2]) * (row_value(row, q(place)) - q(wish[1]))
                    prices.append(fs(a, q(some[2]) * b))
                self.tells(tuple(prices), prices_of, some, row)

    def test_pairing_is_the_sum_of_pulls(self):
        chance = random.Random(92)
        for some in all_tasks(93, 3):
            places = own_places(some)
            values = [Fraction(chance.randint(-9, 9)) for place in places]
            slopes = [Fraction(chance.randint(-9, 9)) for place in places]
            if some[0] == 1:
                d = [q(b) - q(a) for a, b in zip(places, places[1:])]
                pieces = []
                for k in range(len(d)):
                    numbers = [values[k], (values[k + 1] - values[k]) / d[k]]
                    while numbers and numbers[-1] == 0:
                        numbers.pop()
                    pieces.append(fs(*numbers))
                row = (places, tuple(pieces))
            else:
                row = hermite_row(places, values, slopes)
            h = other_row(chance, some)
            total = Fraction(0)
            for (place, wish, slope), (p, b) in zip(some[3], pulls_of(some, row)):
                total += q(p) * row_value(h, q(place)) + q(b) * row_slope(h, q(place))
            self.assertEqual(q(pairing_of(some[0], row, h)), total)

    def test_known(self):
        points = tuple(((k, 1), FREE, FREE) for k in range(3))
        tent = (fs(0, 1, 2), (fs(0, 3), fs(3, -5)))
        self.tells((fs(-3, 0), fs(8, 0), fs(-5, 0)), pulls_of, (1, None, (1, 1), points), tent)
        ring = (fs(0, 1, 2, 4), (fs(0, 3), fs(3, -5), fs(-2, 1)))
        self.tells((fs(-2, 0), fs(8, 0), fs(-6, 0)), pulls_of, (1, (4, 1), (1, 1), points), ring)
        bent = (fs(0, 1, 2), (fs(0, 0, 0, 1), fs(1, 0, 5)))
        self.tells((fs(6, 0), fs(-6, -4), fs(0, 10)), pulls_of, (3, None, (1, 1), points), bent)
        ring = (fs(0, 1, 2, 4), (fs(0, 0, 0, 1), fs(1, 0, 5), fs(6, -3)))
        self.tells((fs(6, 0), fs(-6, -4), fs(0, 10)), pulls_of, (3, (4, 1), (1, 1), points), ring)
        ring = (fs(0, 1, 2, 4), (fs(0, 0, 2, 1), fs(3), fs(3, 0, 0, 1)))
        self.tells((fs(0, 8), fs(-6, 10), fs(6, 0)), pulls_of, (3, (4, 1), (1, 1), points), ring)

    def test_sort_one_of_any_degree(self):
        points = tuple(((k, 1), FREE, FREE) for k in range(2))
        self.tells((fs(-1, 0), fs(10, 0)), pulls_of, (1, None, (1, 1), points), (fs(0, 1), (fs(0, 1, 3, 1),)))

    def test_prices_of_near_wishes(self):
        points = (((0, 1), ("near", (5, 1), (2, 1)), FREE), ((1, 1), ("held", (5, 1)), FREE))
        line = (fs(0, 1), (fs(1, 3),))
        self.tells((fs(7 * -3 + 2 * -4, 0), fs(21, 0)), prices_of, (1, None, (7, 1), points), line)


if __name__ == "__main__":
    unittest.main()
