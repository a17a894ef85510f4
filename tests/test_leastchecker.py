"""The checker of papers: [31]."""

import random
import unittest
from fractions import Fraction

from gentlebends.errors import NoPaper
from gentlebends.leastchecker import lets_least
from gentlebends.pulling import prices_of
from gentlebends.settling import settled_by
from helpers import (
    FREE, ODD_THINGS, Asking, all_tasks, deep_thing, f, fs, hermite_row, lucas_pair, own_places, q, replaced, row_over,
    same, spoiled,
)


def line_task(*wishes, turn=None, sort=1):
    """A TASK of price 1 with points at 0, 1, 2 .. and these value wishes."""
    return (sort, turn, (1, 1), tuple(((k, 1), wish, FREE) for k, wish in enumerate(wishes)))


def held(n, d=1):
    return ("held", f(n, d))


HELD_TASK = line_task(held(0), held(2), held(1))
HELD_PAPER = ("least", (fs(0, 1, 2), (fs(0, 2), fs(2, -1))), (fs(-2, 0), fs(3, 0), fs(-1, 0)))


class Checker(Asking, unittest.TestCase):

    def lets(self, some, paper):
        self.tells(True, lets_least, some, paper)

    def no_paper(self, word, number, some, paper):
        self.refuses(NoPaper, {"word": word, "number": number}, lets_least, some, paper)

    def test_let_by(self):
        self.lets(HELD_TASK, HELD_PAPER)
        for figures in (1, 2, 12):
            for some in all_tasks(130 + figures, 2, (2, 4, 6), figures, ("held", "near", "free")):
                self.lets(some, settled_by(some, ()))

    def test_shape_of_odd_things(self):
        word, row, prices = HELD_PAPER
        for thing in (*ODD_THINGS, deep_thing(), list(HELD_PAPER), HELD_PAPER[:2], (*HELD_PAPER, ()), ("Least", row, prices),
                      (["least"], row, prices), ("most", row, prices), ("least", prices, row), (row, "least", prices),
                      {0: word, 1: row, 2: prices}, ("least", None, prices), ("least", row, None), HELD_TASK,
                      ("least", row, list(prices)), ("least", row, prices[:2]), ("least", row, (*prices, prices[0])),
                      ("least", row, (prices[0], prices[1], list(prices[2]))), ("least", row, ())):
            self.no_paper("shape", -1, HELD_TASK, thing)

    def test_one_wrong_kind_anywhere(self):
        for path, thing in spoiled(HELD_PAPER):
            if path in ((1, 1, 0), (1, 1, 1)) and isinstance(thing[1][1][path[2]], tuple):
                # A POLY may have one number more or fewer, so another fault is told, or none.
                continue
            self.no_paper("shape", -1, HELD_TASK, thing)

    def test_shape_numbers(self):
        for path, new in (((2, 0, 0), (-4, 2)), ((2, 1, 1), (0, 2)), ((1, 1, 1, 0), (4, 2)), ((1, 0, 1), (2, 2)),
                          ((2, 0, 0), (2, -1)), ((1, 1, 0), fs(0, 2, 0)), ((1, 1, 1), fs(1, -1)), ((1, 0, 2), (1, 1)),
                          ((2, 1), fs(3)), ((2, 1), fs(3, 0, 0)), ((2, 1), (3, 0)), ((2, 1, 1), (False, 1))):
            self.no_paper("shape", -1, HELD_TASK, replaced(HELD_PAPER, path, new))

    def test_shape_with_thousands_of_figures(self):
        a, b = lucas_pair(3990)
        self.no_paper("price", 0, HELD_TASK, replaced(HELD_PAPER, (2, 0, 0), (a, b)))
        self.no_paper("shape", -1, HELD_TASK, replaced(HELD_PAPER, (2, 0, 0), (3 * a, 3 * b)))
        self.no_paper("cuts", -1, HELD_TASK, ("least", (((-a, b), (b, a)), (((a, b), (b, a)),)), HELD_PAPER[2]))

    def test_great_paper(self):
        a, b = lucas_pair(3990)
        some = line_task(("near", (1, 1), (1, 1)), held(2), held(1))
        self.no_paper("price", 0, some, ("least", HELD_PAPER[1], (((a, b), (b, a)),) * 3))

    def test_cuts(self):
        prices = HELD_PAPER[2]
        for row in ((fs(0, 2), (fs(0, Fraction(1, 2)),)), (fs(0, 1, 3), HELD_PAPER[1][1]),
                    (fs(0, 1, Fraction(3, 2), 2), (fs(0, 2), fs(2, -1), fs(Fraction(3, 2), -1))),
                    (fs(1, 2, 3), HELD_PAPER[1][1]), (fs(0, Fraction(1, 2), 2), (fs(0, 2), fs(1)))):
            self.no_paper("cuts", -1, HELD_TASK, ("least", row, prices))
        turned = (1, (3, 1), *HELD_TASK[2:])
        self.no_paper("cuts", -1, turned, HELD_PAPER)
        self.no_paper("cuts", -1, turned, ("least", (fs(0, 1, 2, 4), (*HELD_PAPER[1][1], fs(1))), prices))

    def test_cuts_ahead_of_degree(self):
        self.no_paper("cuts", -1, HELD_TASK, ("least", (fs(0, 3), (fs(0, 0, 1),)), HELD_PAPER[2]))

    def test_degree(self):
        for pieces, k in (((fs(0, 1, 1), fs(2, -1)), 0), ((fs(0, 2), fs(2, 0, -1)), 1), ((fs(0, 0, 0, 2), fs(2, -1)), 0),
                          ((fs(9, 0, 1), fs(10, 0, -1)), 0)):
            self.no_paper("degree", k, HELD_TASK, ("least", (fs(0, 1, 2), pieces), HELD_PAPER[2]))

    def test_row_keeps_not(self):
        prices = HELD_PAPER[2]
        self.no_paper("value", 0, HELD_TASK, ("least", (fs(0, 1, 2), (fs(1, 1), fs(2, -1))), prices))
        self.no_paper("value", 1, HELD_TASK, ("least", (fs(0, 1, 2), (fs(0, 1), fs(1))), prices))
        self.no_paper("value", 2, HELD_TASK, ("least", (fs(0, 1, 2), (fs(0, 2), fs(2))), prices))
        ring = (1, (3, 1), *HELD_TASK[2:])
        self.no_paper("round", 0, ring, ("least", (fs(0, 1, 2, 3), (fs(0, 2), fs(2, -1), fs(1))), prices))
        cubic = (3, *HELD_TASK[1:])
        self.no_paper("smooth", 1, cubic, HELD_PAPER)
        row = hermite_row(fs(0, 1, 2, 3), [0, 2, 1, 0], [1, 0, 0, 2])
        self.no_paper("round", 1, (3, *ring[1:]), ("least", row, prices))
        row = hermite_row(fs(0, 1, 2, 3), [0, 2, 1, 1], [1, 0, 0, 1])
        self.no_paper("round", 0, (3, *ring[1:]), ("least", row, prices))
        sloped = replaced(cubic, (3, 2, 2), held(5))
        row = hermite_row(fs(0, 1, 2), [0, 2, 1], [1, 0, 4])
        self.no_paper("slope", 2, sloped, ("least", row, prices))

    def test_prices(self):
        for k in range(3):
            for which in range(2):
                for change in (Fraction(1, 10 ** 59), Fraction(-1), Fraction(10 ** 59)):
                    was = HELD_PAPER[2][k][which]
                    self.no_paper("price", k, HELD_TASK, replaced(HELD_PAPER, (2, k, which), f(q(was) + change)))
        self.no_paper("price", 0, HELD_TASK, ("least", HELD_PAPER[1], (fs(0, 0),) * 3))

    def test_prices_by_chance(self):
        chance = random.Random(131)
        for some in all_tasks(132, 2, (2, 3), 2, ("held", "near", "free")):
            paper = settled_by(some, ())
            k, which = chance.randrange(len(some[3])), chance.randrange(2)
            wrong = f(q(paper[2][k][which]) + chance.choice((-1, 1)))
            self.no_paper("price", k, some, replaced(paper, (2, k, which), wrong))

    def test_price_of_another_weight(self):
        some = line_task(("near", (0, 1), (1, 1)), held(2))
        paper = settled_by(some, ())
        self.lets(some, paper)
        self.no_paper("price", 0, line_task(("near", (0, 1), (2, 1)), held(2)), paper)
        self.no_paper("price", 0, line_task(("near", (1, 1), (1, 1)), held(2)), paper)
        self.no_paper("price", 0, (1, None, (2, 1), some[3]), paper)

    def test_signs_of_values(self):
        # The row goes 0, y, 0 over 0, 1, 2: the price in the middle has the sign of y.
        for y in (-1, 0, 1):
            row = (fs(0, 1, 2), ((), ()) if y == 0 else (fs(0, y), fs(y, -y)))
            for word, bound, due in (("held", y, True), ("least", y, y >= 0), ("most", y, y <= 0), ("free", 0, y == 0),
                                     ("least", y - 1, y == 0), ("most", y + 1, y == 0)):
                wish = FREE if word == "free" else (word, f(bound))
                some = line_task(held(0), wish, held(0))
                paper = ("least", row, (fs(-y, 0), fs(2 * y, 0), fs(-y, 0)))
                if due:
                    self.lets(some, paper)
                else:
                    self.no_paper("sign", 1, some, paper)

    def test_sign_of_a_near_wish(self):
        row = (fs(0, 1, 2), (fs(0, 1), fs(1, -1)))
        for y, w, due in ((3, 1, True), (2, 2, True), (3, 2, False), (2, 1, False), (1, 1, False), (1, 2, False)):
            some = line_task(held(0), ("near", f(y), f(w)), held(0))
            paper = ("least", row, (fs(-1, 0), fs(2 + w * (1 - y), 0), fs(-1, 0)))
            if due:
                self.lets(some, paper)
            else:
                self.no_paper("sign", 1, some, paper)

    def test_signs_of_slopes(self):
        # From 0 to 0 with slope s in the middle: its price has the sign of s.
        for s in (-1, 0, 1):
            for word, bound, due in (("held", s, True), ("least", s, s >= 0), ("most", s, s <= 0), ("free", 0, s == 0),
                                     ("least", s - 1, s == 0), ("most", s + 1, s == 0)):
                wish = FREE if word == "free" else (word, f(bound))
                points = (((0, 1), held(0), FREE), ((1, 1), held(0), ("held", f(s))), ((2, 1), held(0), FREE))
                paper = settled_by((3, None, (1, 1), points), ())
                some = (3, None, (1, 1), replaced(points, (1, 2), wish))
                if due:
                    self.lets(some, paper)
                else:
                    self.no_paper("sign", 1, some, paper)

    def test_slopes_at_the_last_point(self):
        for s in (-1, 0, 1):
            for word, due in (("held", True), ("least", s >= 0), ("most", s <= 0)):
                points = (((0, 1), held(0), FREE), ((1, 1), held(0), ("held", f(s))))
                paper = settled_by((3, None, (1, 1), points), ())
                some = (3, None, (1, 1), replaced(points, (1, 2), (word, f(s))))
                if due:
                    self.lets(some, paper)
                else:
                    self.no_paper("sign", 1, some, paper)

    def test_first_of_several_signs(self):
        some = line_task(held(0), FREE, FREE, held(0))
        row = (fs(0, 1, 2, 3), (fs(0, 1), fs(1, 1), fs(2, -2)))
        paper = ("least", row, prices_of(some, row))
        self.no_paper("sign", 2, some, paper)
        row = (fs(0, 1, 2, 3), (fs(0, 2), fs(2, 1), fs(3, -3)))
        paper = ("least", row, prices_of(some, row))
        self.no_paper("sign", 1, some, paper)
        self.no_paper("price", 3, some, replaced(paper, (2, 3, 0), (1, 7)))

    def test_first_point_of_a_round(self):
        some = line_task(held(0), held(1), turn=(2, 1))
        row = (fs(0, 1, 2), (fs(0, 1), fs(1, -1)))
        self.lets(some, ("least", row, (fs(-2, 0), fs(2, 0))))
        self.no_paper("price", 0, some, ("least", row, (fs(-1, 0), fs(2, 0))))
        some = line_task(FREE, held(1), turn=(2, 1))
        self.no_paper("sign", 0, some, ("least", row, (fs(-2, 0), fs(2, 0))))

    def test_sixty_figures(self):
        chance = random.Random(133)
        for some in all_tasks(134, 1, (2, 4), 30, ("near", "free")):
            places = own_places(some)
            values = [Fraction(chance.randint(-9, 9), chance.randint(1, 10 ** 20)) for place in places]
            values[-1] = values[0] if some[1] is not None else values[-1]
            row = hermite_row(places, values, [Fraction(0)] * len(places))
            paper = ("least", row, prices_of(some, row))
            with self.assertRaises(NoPaper) as caught:
                lets_least(some, paper)
            self.assertIn(caught.exception.word, ("degree",) if some[0] == 1 else ("sign",))
            self.no_paper("degree" if some[0] == 1 else "price", 0, some, replaced(paper, (2, 0, 1), (10 ** 59, 7)))

    def test_any_row_by_chance_is_seldom_least(self):
        chance = random.Random(135)
        for some in all_tasks(136, 1, (3,)):
            row = row_over(chance, own_places(some), 1)
            with self.assertRaises(NoPaper) as caught:
                lets_least(some, ("least", row, prices_of(some, row)))
            self.assertFalse(same(caught.exception.word, "shape"))


if __name__ == "__main__":
    unittest.main()
