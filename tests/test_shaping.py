"""SHAPEDs and rows of a shape: [47]."""

import random
import unittest
from fractions import Fraction

from gentlebends.bending import bending_of
from gentlebends.errors import NoTask
from gentlebends.rowsums import mirrored_row, row_scaled
from gentlebends.shaping import ask_shaped, has_shape, shaped_cost
from helpers import (
    ODD_THINGS, Asking, deep_thing, f, fraction, fs, lucas_pair, poly_bends, positive, q, replaced, rising, row,
    row_over, row_value, spoiled,
)

SHAPES = ("rising", "falling", "cupped", "capped")
PLAIN = ("rising", (1, 1), (((0, 1), (3, 1), (1, 2)), ((1, 1), (-2, 1), (4, 1))))


def shaped(chance, shape, many, figures=2):
    """A SHAPED by chance."""
    points = tuple((place, fraction(chance, figures), positive(chance, figures)) for place in rising(chance, many, figures))
    return (shape, positive(chance, figures), points)


def all_shaped(seed, times=1, counts=(2, 3, 4, 6), figures=2):
    """SHAPEDs of the four shapes."""
    chance = random.Random(seed)
    for shape in SHAPES:
        for many in counts:
            for time in range(times):
                yield shaped(chance, shape, many, figures)


class Asked(Asking, unittest.TestCase):

    def no_task(self, word, number, thing):
        self.refuses(NoTask, {"word": word, "number": number}, ask_shaped, thing)

    def test_right(self):
        for figures in (1, 2, 30):
            for some in all_shaped(330 + figures, 2, (2, 3, 4, 5, 6), figures):
                self.tells(True, ask_shaped, some)

    def test_shape_of_odd_things(self):
        for thing in (*ODD_THINGS, deep_thing(), list(PLAIN), PLAIN[:2], (*PLAIN, ()), dict(enumerate(PLAIN))):
            self.no_task("shape", -1, thing)

    def test_shape_parts(self):
        for shape in ("Rising", "", "rising ", "level", None, 1, True, ("rising",), ["rising"], 0, (), {}, "free"):
            self.no_task("shape", -1, replaced(PLAIN, (0,), shape))
        for price in (None, 1, (0, 1), (-1, 2), (2, 2), [1, 1], (1, True), (True, 1), True, (), (0, 2), (1, 1, 1)):
            self.no_task("shape", -1, replaced(PLAIN, (1,), price))
        point = PLAIN[2][0]
        for points in (None, (), (point,), list(PLAIN[2]), 2, "ab", dict(enumerate(PLAIN[2])), (point,) * 7):
            self.no_task("shape", -1, replaced(PLAIN, (2,), points))
        six = tuple(((k, 1), (0, 1), (1, 1)) for k in range(7))
        self.tells(True, ask_shaped, replaced(PLAIN, (2,), six[:6]))
        self.no_task("shape", -1, replaced(PLAIN, (2,), six))

    def test_points(self):
        place, y, w = PLAIN[2][0]
        for thing in (*ODD_THINGS, deep_thing(), (place, y), (place, y, w, w), [place, y, w], (0, y, w), (place, 0, w),
                      (place, y, 1), (place, y, (0, 1)), (place, y, (-1, 1)), (place, y, (2, 2)), (place, (2, 4), w),
                      ((0, 2), y, w), (place, ("held", y), w), (place, y, (True, 1)), (place, (1, True), w),
                      ((False, 1), y, w), (list(place), y, w), (place, list(y), w), (place, y, list(w)), (None, y, w),
                      (place, None, w), (place, y, None), (place, ("near", y, w), ("free",))):
            self.no_task("point", 0, replaced(PLAIN, (2, 0), thing))
            self.no_task("point", 1, replaced(PLAIN, (2, 1), thing))
            self.no_task("point", 0, replaced(PLAIN, (2,), (thing, thing)))

    def test_one_wrong_kind_anywhere(self):
        some = ("cupped", (1, 3), (((-1, 2), (3, 1), (1, 2)), ((1, 1), (-2, 1), (4, 1)), ((2, 1), (0, 1), (1, 1))))
        for path, thing in spoiled(some):
            if path == (2,) and isinstance(thing[2], tuple):
                # Points may be two to six: one fewer is right, of one more another fault is told.
                continue
            if len(path) < 2 or path[0] != 2:
                self.no_task("shape", -1, thing)
            else:
                self.no_task("point", path[1], thing)

    def test_places(self):
        for places, k in (((0, 0), 1), ((1, 0), 1), ((0, 2, 1), 2), ((0, 2, 2, 1), 2), ((3, 2, 1), 1), ((0, 1, 0), 2)):
            for shape in SHAPES:
                points = tuple(((place, 1), (0, 1), (1, 1)) for place in places)
                self.no_task("places", k, (shape, (1, 1), points))
                last = len(places) - 1
                self.no_task("point", last, (shape, (1, 1), replaced(points, (last, 2), (0, 1))))
        near = (((10 ** 29, 10 ** 29 - 1), (0, 1), (1, 1)), ((1, 1), (0, 1), (1, 1)))
        self.no_task("places", 1, ("capped", (1, 1), near))
        self.tells(True, ask_shaped, ("capped", (1, 1), near[::-1]))

    def test_thousands_of_figures(self):
        a, b = lucas_pair(3990)
        points = (((-a, b), (b, a), (a, b)), ((a, b), (-b, a), (b, a)))
        self.tells(True, ask_shaped, ("cupped", (a, b), points))
        self.no_task("places", 1, ("cupped", (a, b), points[::-1]))
        self.no_task("shape", -1, ("cupped", (2 * a, 2 * b), points))
        self.no_task("point", 1, ("cupped", (a, b), replaced(points, (1, 1), (3 * a, 3 * b))))


def own_rises(some):
    """Whether no slope is below nought, looked at where a slope can be least."""
    cuts, pieces = some
    for k, piece in enumerate(pieces):
        d = q(cuts[k + 1]) - q(cuts[k])
        own = [q(c) for c in piece] + [Fraction(0)] * (4 - len(piece))
        looks = [Fraction(0), d]
        if own[3] != 0 and 0 < -own[2] / (3 * own[3]) < d:
            looks.append(-own[2] / (3 * own[3]))
        if min(poly_bends(piece, t)[1] for t in looks) < 0:
            return False
    return True


def own_cups(some):
    """Whether no slope's slope is below nought and no slope falls at a cut."""
    cuts, pieces = some
    ends = [(poly_bends(piece, 0), poly_bends(piece, q(cuts[k + 1]) - q(cuts[k]))) for k, piece in enumerate(pieces)]
    bent = all(bends[2] >= 0 for pair in ends for bends in pair)
    return bent and all(ends[k][1][1] <= ends[k + 1][0][1] for k in range(len(ends) - 1))


def rising_row(chance, many, figures):
    """A ROW whose slope is a square with a factor above nought, or level, in each piece."""
    cuts = rising(chance, many + 1, figures)
    value, pieces = q(fraction(chance, figures)), []
    for k in range(many):
        d = q(cuts[k + 1]) - q(cuts[k])
        a, c = q(positive(chance, figures)) * chance.choice((0, 1)), d * chance.choice((0, Fraction(1, 3), 1, 2, -1))
        # The slope a (t - c) ** 2 touches nought at c, which may lie within, at an end or beyond.
        numbers = [value, a * c * c, -a * c, a / 3]
        pieces.append(tuple(f(number) for number in numbers[:4 if a else 1]) if a or value else ())
        value = sum(number * d ** power for power, number in enumerate(numbers))
    return (cuts, tuple(pieces))


def cupped_row(chance, many, figures):
    """A ROW that is bent upward, perhaps straight here and there, with slopes that jump up at its cuts."""
    cuts = rising(chance, many + 1, figures)
    value, slope, pieces = q(fraction(chance, figures)), q(fraction(chance, figures)), []
    for k in range(many):
        d = q(cuts[k + 1]) - q(cuts[k])
        begin, end = [q(positive(chance, figures)) * chance.choice((0, 1)) for side in range(2)]
        numbers = [value, slope, begin / 2, (end - begin) / (6 * d)]
        while numbers and numbers[-1] == 0:
            numbers.pop()
        pieces.append(tuple(f(number) for number in numbers))
        bends = poly_bends(pieces[-1], d)
        value, slope = bends[0], bends[1] + q(positive(chance, figures)) * chance.choice((0, 1))
    return (cuts, tuple(pieces))


class Shapes(Asking, unittest.TestCase):

    def look_at(self, some):
        contrary = row_scaled(some, (-1, 1))
        due = (own_rises(some), own_rises(contrary), own_cups(some), own_cups(contrary))
        for shape, has in zip(SHAPES, due):
            self.tells(has, has_shape, shape, some)
        return due

    def test_by_chance(self):
        chance = random.Random(340)
        for figures in (1, 2, 30):
            for time in range(60):
                self.look_at(row(chance, chance.randint(1, 8), chance.choice((0, 0, 1, 2)), figures))

    def test_rising_and_falling_ones(self):
        chance = random.Random(341)
        for figures in (1, 2, 7):
            for time in range(30):
                some = rising_row(chance, chance.randint(1, 8), figures)
                self.assertTrue(self.look_at(some)[0])
                self.assertTrue(self.look_at(row_scaled(some, (-1, 1)))[1])
                self.assertTrue(self.look_at(mirrored_row(some))[1])

    def test_cupped_and_capped_ones(self):
        chance = random.Random(342)
        for figures in (1, 2, 7):
            for time in range(30):
                some = cupped_row(chance, chance.randint(1, 8), figures)
                self.assertTrue(self.look_at(some)[2])
                self.assertTrue(self.look_at(row_scaled(some, (-1, 1)))[3])
                self.assertTrue(self.look_at(mirrored_row(some))[2])

    def has(self, some, *shapes):
        for shape in SHAPES:
            self.tells(shape in shapes, has_shape, shape, some)

    def test_known(self):
        self.has((fs(0, 1), ((),)), *SHAPES)
        self.has((fs(0, 1), (fs(5),)), *SHAPES)
        self.has((fs(0, 1), (fs(5, 1),)), "rising", "cupped", "capped")
        self.has((fs(0, 1), (fs(5, -1),)), "falling", "cupped", "capped")
        self.has((fs(0, 1), (fs(0, 0, 1),)), "rising", "cupped")
        self.has((fs(0, 1), (fs(0, 0, -1),)), "falling", "capped")
        self.has((fs(0, 1), (fs(0, -2, 1),)), "falling", "cupped")
        self.has((fs(0, 1), (fs(0, 2, -1),)), "rising", "capped")
        self.has((fs(0, 1), (fs(0, -1, 1),)), "cupped")
        self.has((fs(0, 1), (fs(0, 0, 0, 1),)), "rising", "cupped")
        self.has((fs(-1, 1), (fs(-1, 3, -3, 1),)), "rising")

    def test_a_dip_within_a_piece(self):
        # The slope is 3 (t - 1/2) ** 2, less e.
        for e, has in ((Fraction(0), True), (Fraction(1, 10 ** 29), False), (Fraction(-1, 10 ** 29), True)):
            piece = fs(0, Fraction(3, 4) - e, Fraction(-3, 2), 1)
            self.has((fs(0, 1), (piece,)), *(["rising"] if has else []))
            self.has(row_scaled((fs(0, 1), (piece,)), (-1, 1)), *(["falling"] if has else []))
            self.has((fs(-1, 0, 1), ((), piece)), *(["rising"] if has else []))

    def test_a_dip_beyond_a_piece(self):
        # The slope is 3 t ** 2 - 12 t + 9: nought at 1 and at 3, below nought between them.
        piece = fs(0, 9, -6, 1)
        self.has((fs(0, 1), (piece,)), "rising", "capped")
        self.has((fs(0, 2), (piece,)), "capped")
        self.has((fs(1, 3), (fs(4, 0, -3, 1),)), "falling")
        self.has((fs(3, 4), (fs(0, 0, 3, 1),)), "rising", "cupped")

    def test_slopes_that_jump(self):
        self.has((fs(0, 1, 2), (fs(0, 1), fs(1, 2))), "rising", "cupped")
        self.has((fs(0, 1, 2), (fs(0, 2), fs(2, 1))), "rising", "capped")
        self.has((fs(0, 1, 2), (fs(0, -1), fs(-1, 1))), "cupped")
        self.has((fs(0, 1, 2), (fs(0, 1), fs(1, -1))), "capped")
        self.has((fs(0, 1, 2), (fs(0, 1), fs(1))), "rising", "capped")
        self.has((fs(0, 1, 2), (fs(3), fs(3, -1))), "falling", "capped")
        self.has((fs(0, 1, 2), (fs(0, 0, 1), fs(1, 2))), "rising", "cupped")
        self.has((fs(0, 1, 2), (fs(0, 0, 1), fs(1, Fraction(199, 100)))), "rising")
        self.has((fs(0, 1, 2, 3), (fs(0, 1), fs(1, 2), fs(3, 1))), "rising")

    def test_slopes_slope_at_one_end_alone(self):
        self.has((fs(0, 1), (fs(0, 9, -1, 1),)), "rising")
        self.has((fs(0, 1), (fs(0, 9, 3, -2),)), "rising")
        self.has((fs(0, 1), (fs(0, 9, 3, -1),)), "rising", "cupped")
        self.has((fs(0, 1), (fs(0, 9, 0, 1),)), "rising", "cupped")


class Costs(Asking, unittest.TestCase):

    def test_by_chance(self):
        chance = random.Random(343)
        for figures in (1, 2, 30):
            for some in all_shaped(344 + figures, 2, (2, 3, 6), figures):
                low, high = q(some[2][0][0]), q(some[2][-1][0])
                inner = [low + (high - low) * Fraction(k, 11) for k in chance.sample(range(1, 11), chance.randint(0, 7))]
                over = row_over(chance, [f(cut) for cut in sorted({low, high, *inner})], 0, min(figures, 12))
                due = q(some[1]) * q(bending_of(1, over))
                for place, y, w in some[2]:
                    due += q(w) * (row_value(over, q(place)) - q(y)) ** 2
                self.tells(f(due), shaped_cost, some, over)

    def test_known(self):
        some = ("capped", (5, 1), (((0, 1), (1, 1), (2, 1)), ((1, 1), (0, 1), (3, 1))))
        self.tells((10, 1), shaped_cost, some, (fs(0, 1), (fs(0, 1),)))
        self.tells((2, 1), shaped_cost, some, (fs(0, 1), ((),)))
        half = Fraction(1, 2)
        self.tells((13, 4), shaped_cost, some, (fs(0, half, 1), (fs(1, -1), fs(half))))

    def test_the_shape_is_nothing_to_it(self):
        over = (fs(0, 1), (fs(2, -3, 1, 4),))
        told = {shaped_cost(replaced(PLAIN, (0,), shape), over) for shape in SHAPES}
        self.assertEqual(len(told), 1)


if __name__ == "__main__":
    unittest.main()
