"""The checker of shaped papers: [48], with [49]."""

import random
import unittest
from fractions import Fraction

from gentlebends.errors import NoPaper
from gentlebends.rows import is_row
from gentlebends.shapechecker import lets_shaped
from gentlebends.shaping import ask_shaped, has_shape
from helpers import ODD_THINGS, Asking, deep_thing, f, fs, lucas_pair, q, replaced, spoiled
from shapehelpers import line_row, own_papers
from test_shaping import SHAPES, all_shaped


def even(shape, *heights, price=(1, 1), w=(1, 1)):
    """A SHAPED with these heights at 0, 1, 2 .., all of one weight."""
    return (shape, price, tuple(((k, 1), f(y), w) for k, y in enumerate(heights)))


def over(*values):
    """The ROW of straight lines through these values at 0, 1, 2 .."""
    return line_row(fs(*range(len(values))), [Fraction(value) for value in values])


# From 3 to 1 at price 1 and weights 1 a rising row is level at 2, with the bind 1.
STEP = even("rising", 3, 1)
STEP_PAPER = ("shaped", over(2, 2), fs(1))


class Checker(Asking, unittest.TestCase):

    def lets(self, some, paper):
        self.tells(True, lets_shaped, some, paper)

    def no_paper(self, word, number, some, paper):
        self.refuses(NoPaper, {"word": word, "number": number}, lets_shaped, some, paper)

    def test_let_by(self):
        bound = 0
        for figures in (1, 2, 12):
            for some in all_shaped(350 + figures, 4, (2, 3, 4), figures):
                papers = own_papers(some)
                self.assertEqual(len(set(papers)), 1)
                self.lets(some, papers[0])
                self.assertTrue(has_shape(some[0], papers[0][1]))
                bound += any(bind != (0, 1) for bind in papers[0][2])
        self.assertGreater(bound, 40)

    def test_let_by_with_great_numbers(self):
        for some in all_shaped(353, 1, (2, 5), 30):
            self.lets(some, own_papers(some)[0])

    def test_by_hand(self):
        self.lets(STEP, STEP_PAPER)
        self.lets(even("falling", -3, -1), ("shaped", over(-2, -2), fs(1)))
        self.lets(even("falling", 1, 3), ("shaped", over(2, 2), fs(1)))
        # Of 0, 3, 0 the cupped row is level at 1, since its values are a straight line.
        self.lets(even("cupped", 0, 3, 0), ("shaped", over(1, 1, 1), fs(1)))
        self.lets(even("capped", 0, -3, 0), ("shaped", over(-1, -1, -1), fs(1)))
        self.lets(even("rising", 0, 3, price=(1, 1)), ("shaped", over(1, 2), fs(0)))
        self.lets(even("cupped", 0, 3), ("shaped", over(1, 2), ()))
        self.lets(even("capped", 0, 3), ("shaped", over(1, 2), ()))

    def test_shape_of_odd_things(self):
        word, row, binds = STEP_PAPER
        for thing in (*ODD_THINGS, deep_thing(), list(STEP_PAPER), STEP_PAPER[:2], (*STEP_PAPER, ()), ("least", row, binds),
                      ("Shaped", row, binds), (["shaped"], row, binds), ("shaped", binds, row), (row, "shaped", binds),
                      dict(enumerate(STEP_PAPER)), ("shaped", None, binds), ("shaped", row, None), STEP,
                      ("shaped", row, list(binds)), ("shaped", row, ()), ("shaped", row, fs(1, 0)), ("shaped", row, (1,)),
                      ("shaped", row, ((1,),)), ("shaped", row, ((1, True),)), ("shaped", row, ((2, 2),)),
                      ("shaped", list(row), binds), ("shaped", (list(row[0]), row[1]), binds), ("shaped", row, fs(1)[0])):
            self.no_paper("shape", -1, STEP, thing)

    def test_one_wrong_kind_anywhere(self):
        some = even("cupped", 1, 4, 1, 9)
        paper = own_papers(some)[0]
        self.lets(some, paper)
        for path, thing in spoiled(paper):
            if not is_row(thing[1] if isinstance(thing, tuple) and len(thing) > 1 else None) or path[:2] != (1, 1):
                self.no_paper("shape", -1, some, thing)

    def test_how_many_binds(self):
        for shape in SHAPES:
            for many in (2, 3, 6):
                some = even(shape, *[5] * many)
                due = many - 1 if shape in ("rising", "falling") else many - 2
                for count in range(many + 2):
                    paper = ("shaped", over(*[5] * many), fs(*[0] * count))
                    if count == due:
                        self.lets(some, paper)
                    else:
                        self.no_paper("shape", -1, some, paper)

    def test_row_must_be_joined(self):
        self.no_paper("shape", -1, even("rising", 1, 1, 1), ("shaped", (fs(0, 1, 2), (fs(1), fs(2))), fs(0, 0)))

    def test_cuts(self):
        half = Fraction(1, 2)
        for row in ((fs(0, half, 1), (fs(2), fs(2))), (fs(0, 2), (fs(2),)), (fs(-1, 1), (fs(2),)), (fs(0, half), (fs(2),))):
            self.no_paper("cuts", -1, STEP, ("shaped", row, fs(1)))
        self.no_paper("cuts", -1, even("cupped", 1, 1, 1), ("shaped", (fs(0, 2), (fs(1),)), fs(0)))
        self.no_paper("cuts", -1, STEP, ("shaped", (fs(0, 2), (fs(2, 0, 0, -5),)), fs(-1)))

    def test_degree(self):
        for pieces, k in (((fs(1, 0, 1), fs(2)), 0), ((fs(2), fs(2, 0, 1)), 1), ((fs(2), fs(2, -1, 0, 1)), 1),
                          ((fs(1, 0, 0, 1), fs(2, 0, 1)), 0), ((fs(2, -5), fs(-3, 0, 1)), 1)):
            for shape, many in (("rising", 2), ("falling", 2), ("cupped", 1), ("capped", 1)):
                paper = ("shaped", (fs(0, 1, 2), pieces), fs(*[-1] * many))
                self.no_paper("degree", k, even(shape, 1, 1, 1), paper)

    def test_kept_slopes(self):
        for values, k in (((0, 1, 0, 1), 1), ((1, 0, 1, 0), 0), ((0, 0, 1, 0), 2), ((3, 2, 1, 0), 0), ((0, 5, 5, 4), 2)):
            contrary = [-value for value in values]
            self.no_paper("kept", k, even("rising", *values), ("shaped", over(*values), fs(-1, -1, -1)))
            self.no_paper("kept", k, even("falling", *contrary), ("shaped", over(*contrary), fs(-1, -1, -1)))
        tiny = Fraction(-1, 10 ** 29)
        self.no_paper("kept", 0, STEP, ("shaped", over(0, tiny), fs(0)))
        self.no_paper("kept", 0, even("falling", 0, 0), ("shaped", over(0, -tiny), fs(0)))

    def test_kept_turns(self):
        for values, k in (((0, 1, 1, 1), 1), ((0, 0, 1, 1), 2), ((0, 1, 2, 2), 2), ((0, 3, 3, 0), 1), ((0, -1, 5, 6), 2)):
            contrary = [-value for value in values]
            self.no_paper("kept", k, even("cupped", *values), ("shaped", over(*values), fs(-1, -1)))
            self.no_paper("kept", k, even("capped", *contrary), ("shaped", over(*contrary), fs(-1, -1)))

    def test_binds_below_nought(self):
        for k in range(3):
            binds = replaced(fs(0, 0, 0), (k,), (-1, 10 ** 29))
            for shape in ("rising", "falling"):
                self.no_paper("bind", k, even(shape, 2, 2, 2, 2), ("shaped", over(2, 2, 2, 2), binds))
            for shape in ("cupped", "capped"):
                some = even(shape, *[2] * 5)
                self.no_paper("bind", k, some, ("shaped", over(*[2] * 5), binds))

    def test_binds_where_nothing_binds(self):
        for k in range(3):
            values = [0, 0, 0, 0]
            values[k + 1:] = [1] * (3 - k)
            binds = replaced(fs(0, 0, 0), (k,), (1, 10 ** 29))
            self.no_paper("bind", k, even("rising", *values), ("shaped", over(*values), binds))
            contrary = [-value for value in values]
            self.no_paper("bind", k, even("falling", *contrary), ("shaped", over(*contrary), binds))
            values = [0] * 5
            values[k + 2:] = range(1, 4 - k)
            self.no_paper("bind", k, even("cupped", *values), ("shaped", over(*values), binds))
            contrary = [-value for value in values]
            self.no_paper("bind", k, even("capped", *contrary), ("shaped", over(*contrary), binds))

    def test_bind_ahead_of_pull(self):
        self.no_paper("bind", 1, even("rising", 5, 5, 5), ("shaped", over(0, 0, 0), fs(0, -1)))
        self.no_paper("bind", 0, even("rising", 5, 5, 5), ("shaped", over(0, 0, 0), fs(-1, -1)))

    def test_pulls(self):
        self.no_paper("pull", 0, STEP, ("shaped", over(2, 2), fs(0)))
        self.no_paper("pull", 0, STEP, ("shaped", over(2, 2), fs(2)))
        self.no_paper("pull", 0, STEP, ("shaped", over(1, 1), fs(1)))
        self.no_paper("pull", 1, even("rising", 2, 1), ("shaped", over(2, 2), fs(0)))
        self.no_paper("pull", 1, even("rising", 3, 2), STEP_PAPER)
        self.no_paper("pull", 2, even("rising", 2, 2, 1), ("shaped", over(2, 2, 2), fs(0, 0)))
        some = even("cupped", 0, 3, 0)
        self.no_paper("pull", 0, some, ("shaped", over(1, 1, 1), fs(0)))
        self.no_paper("pull", 2, even("cupped", 0, 3, 1), ("shaped", over(1, 1, 1), fs(1)))
        self.no_paper("pull", 1, even("cupped", 0, 4, 0), ("shaped", over(1, 1, 1), fs(1)))
        self.no_paper("pull", 0, even("falling", 3, 1), STEP_PAPER)
        self.no_paper("pull", 0, even("capped", 0, 3, 0), ("shaped", over(1, 1, 1), fs(1)))

    def test_price_and_weight_are_looked_at(self):
        some = even("rising", 0, 3)
        paper = ("shaped", over(1, 2), fs(0))
        self.lets(some, paper)
        self.no_paper("pull", 0, even("rising", 0, 3, price=(2, 1)), paper)
        self.no_paper("pull", 0, even("rising", 0, 3, w=(2, 1)), paper)
        self.lets(even("rising", 0, 3, price=(2, 1), w=(2, 1)), paper)
        self.no_paper("pull", 1, replaced(some, (2, 1, 2), (2, 1)), paper)

    def test_unlike_lengths(self):
        # Values 1, 1, 1 at 0, 1, 3: a bind b pulls b, -3 b / 2 and b / 2.
        places = fs(0, 1, 3)
        row = line_row(places, [Fraction(1)] * 3)
        some = ("cupped", (1, 1), tuple(zip(places, fs(-1, 4, 0), fs(1, 1, 1))))
        self.tells(True, ask_shaped, some)
        self.lets(some, ("shaped", row, fs(2)))
        contrary = ("capped", (1, 1), tuple(zip(places, fs(3, -2, 2), fs(1, 1, 1))))
        self.lets(contrary, ("shaped", row, fs(2)))
        self.no_paper("pull", 2, replaced(some, (2, 2, 1), (-1, 1)), ("shaped", row, fs(2)))

    def test_wrong_binds_by_chance(self):
        chance = random.Random(354)
        for some in all_shaped(355, 2, (3, 4)):
            paper = own_papers(some)[0]
            k = chance.randrange(len(paper[2]))
            wrong = replaced(paper, (2, k), f(q(paper[2][k]) + Fraction(chance.choice((-1, 1)), 10 ** 20)))
            with self.assertRaises(NoPaper) as caught:
                lets_shaped(some, wrong)
            self.assertIn(caught.exception.word, ("bind", "pull"))

    def test_thousands_of_figures(self):
        a, b = lucas_pair(3990)
        self.no_paper("pull", 0, STEP, ("shaped", over(2, 2), ((a, b),)))
        self.no_paper("shape", -1, STEP, ("shaped", over(2, 2), ((3 * a, 3 * b),)))
        self.no_paper("cuts", -1, STEP, ("shaped", (((-a, b), (b, a)), (((a, b), (b, a)),)), fs(1)))
        self.no_paper("pull", 0, STEP, ("shaped", (fs(0, 1), (((a, b), (b, a)),)), fs(0)))


if __name__ == "__main__":
    unittest.main()
