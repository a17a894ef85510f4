"""The papers of shaped rows: [49], with [48], [4]."""

import random
import unittest
from fractions import Fraction

from gentlebends.bending import bending_of
from gentlebends.rowsums import mirrored_row, row_scaled, row_sum
from gentlebends.shapechecker import lets_shaped
from gentlebends.shapepapers import shaped_paper_of
from gentlebends.shaping import has_shape, shaped_cost
from gentlebends.smoothing import near_paper
from helpers import FREE, Asking, f, fraction, fs, poly_bends, positive, q, row_value
from shapehelpers import own_papers
from test_shapechecker import even, over
from test_shaping import SHAPES, all_shaped

CONTRARY = {"rising": "falling", "falling": "rising", "cupped": "capped", "capped": "cupped"}


def full_shaped(chance, shape, figures=30):
    """A SHAPED of six points, each number of just so many figures above and below."""
    low, high = 10 ** (figures - 1), 10 ** figures - 1

    def above():
        return f(chance.randint(low, high), chance.randint(low, high))

    def any_one():
        return f(chance.choice((-1, 1)) * chance.randint(low, high), chance.randint(low, high))
    places = sorted([any_one() for k in range(6)], key=q)
    return (shape, above(), tuple((place, any_one(), above()) for place in places))


def cuts_over(chance, some):
    """Rising cuts from the first place of a SHAPED to the last, some of its places among them."""
    low, high = q(some[2][0][0]), q(some[2][-1][0])
    cuts = {low, high, *[low + (high - low) * Fraction(k, 13) for k in chance.sample(range(1, 13), 3)]}
    cuts |= {q(point[0]) for point in some[2] if chance.random() < 0.5}
    return sorted(cuts)


def row_of_shape(chance, some):
    """A ROW by chance over a SHAPED's stretch that has its shape, curved here and there."""
    shape = some[0]
    cuts = cuts_over(chance, some)
    value, slope, pieces = q(fraction(chance)), q(fraction(chance)), []
    for k in range(len(cuts) - 1):
        d = cuts[k + 1] - cuts[k]
        begin, end = [q(positive(chance)) * chance.choice((0, 1)) for side in range(2)]
        if shape in ("rising", "falling"):
            # The slope goes from one number to another, neither below nought.
            numbers = [value, begin, (end - begin) / (2 * d)]
        else:
            numbers = [value, slope, begin / 2, (end - begin) / (6 * d)]
        while numbers and numbers[-1] == 0:
            numbers.pop()
        pieces.append(tuple(f(number) for number in numbers))
        bends = poly_bends(pieces[-1], d)
        value, slope = bends[0], bends[1] + q(positive(chance)) * chance.choice((0, 1))
    row = (tuple(f(cut) for cut in cuts), tuple(pieces))
    return row if shape in ("rising", "cupped") else row_scaled(row, (-1, 1))


def bound_sizes(some, row):
    """For each bind how much a ROW rises (falls) along its piece, or its chords' slopes turn up (down) at its place."""
    places = [q(point[0]) for point in some[2]]
    values = [row_value(row, place) for place in places]
    side = 1 if some[0] in ("rising", "cupped") else -1
    steps = [values[k + 1] - values[k] for k in range(len(places) - 1)]
    if some[0] in ("rising", "falling"):
        return [side * step for step in steps]
    chords = [step / (places[k + 1] - places[k]) for k, step in enumerate(steps)]
    return [side * (chords[k] - chords[k - 1]) for k in range(1, len(chords))]


class ShapedPapers(Asking, unittest.TestCase):

    def test_just_the_one(self):
        numbers = {shape: set() for shape in SHAPES}
        for figures in (1, 2):
            for some in all_shaped(360 + figures, 8, (2, 3, 4, 5), figures):
                paper = self.told(shaped_paper_of, some)
                self.assertEqual(set(own_papers(some)), {paper})
                self.tells(True, lets_shaped, some, paper)
                self.assertTrue(has_shape(some[0], paper[1]))
                numbers[some[0]].add(sum(bind != (0, 1) for bind in paper[2]))
        for shape in SHAPES:
            self.assertEqual(numbers[shape], {0, 1, 2, 3} if shape in ("cupped", "capped") else {0, 1, 2, 3, 4})

    def test_six_points(self):
        for some in all_shaped(363, 6, (6,), 2):
            paper = self.told(shaped_paper_of, some)
            self.tells(True, lets_shaped, some, paper)

    def test_great_numbers(self):
        chance = random.Random(364)
        for shape in SHAPES:
            for time in range(3):
                some = full_shaped(chance, shape)
                self.assertTrue(lets_shaped(some, shaped_paper_of(some)))
        for some in all_shaped(365, 2, (2, 3, 4), 30):
            self.tells(True, lets_shaped, some, self.told(shaped_paper_of, some))

    def test_other_rows_of_the_shape_cost_more(self):
        chance = random.Random(366)
        for some in all_shaped(367, 4, (2, 3, 4, 6), 2):
            word, row, binds = shaped_paper_of(some)
            for time in range(3):
                other = row_of_shape(chance, some)
                self.assertTrue(has_shape(some[0], other))
                h = row_sum(other, row_scaled(row, (-1, 1)))
                more = q(some[1]) * q(bending_of(1, h))
                more += sum(q(w) * row_value(h, q(place)) ** 2 for place, y, w in some[2])
                parts = [q(bind) * size for bind, size in zip(binds, bound_sizes(some, other))]
                self.assertGreaterEqual(min(parts, default=0), 0)
                more += 2 * sum(parts)
                self.assertEqual(q(shaped_cost(some, other)) - q(shaped_cost(some, row)), more)
                self.assertGreater(more, 0)

    def test_by_hand(self):
        self.tells(("shaped", over(2, 2), fs(1)), shaped_paper_of, even("rising", 3, 1))
        self.tells(("shaped", over(1, 2), fs(0)), shaped_paper_of, even("rising", 0, 3))
        self.tells(("shaped", over(2, 2), fs(1)), shaped_paper_of, even("falling", 1, 3))
        self.tells(("shaped", over(1, 1, 1), fs(1)), shaped_paper_of, even("cupped", 0, 3, 0))
        self.tells(("shaped", over(-1, -1, -1), fs(1)), shaped_paper_of, even("capped", 0, -3, 0))
        self.tells(("shaped", over(2, 2, 2), fs(1, 1)), shaped_paper_of, even("rising", 3, 2, 1))

    def test_two_points(self):
        for shape in ("cupped", "capped"):
            for heights in ((0, 3), (3, 0), (1, 1)):
                paper = self.told(shaped_paper_of, even(shape, *heights))
                self.assertEqual(paper[2], ())
                self.tells(True, lets_shaped, even(shape, *heights), paper)

    def test_level_heights(self):
        for shape in SHAPES:
            for many in range(2, 7):
                due = many - (1 if shape in ("rising", "falling") else 2)
                self.tells(("shaped", over(*[7] * many), fs(*[0] * due)), shaped_paper_of, even(shape, *[7] * many))
                self.tells(("shaped", over(*[0] * many), fs(*[0] * due)), shaped_paper_of, even(shape, *[0] * many))

    def test_all_bounds_bind(self):
        for many in range(2, 7):
            heights = [10 * k for k in range(many)]
            for shape, some in (("rising", heights[::-1]), ("falling", heights)):
                paper = self.told(shaped_paper_of, even(shape, *some))
                self.assertEqual(paper[1], over(*[Fraction(sum(heights), many)] * many))
                self.assertTrue(all(bind[0] > 0 for bind in paper[2]))
            heights = [-k * k for k in range(many)]
            for shape, side in (("cupped", 1), ("capped", -1)):
                paper = self.told(shaped_paper_of, even(shape, *[side * y for y in heights]))
                self.assertEqual(len(set(piece[1] for piece in paper[1][1])), 1)
                self.assertTrue(all(bind[0] > 0 for bind in paper[2]))

    def test_binds_nought_just_where_no_shape_is_needed(self):
        found = {True: 0, False: 0}
        for some in all_shaped(368, 12, (2, 3, 4), 1):
            points = tuple((place, ("near", y, w), FREE) for place, y, w in some[2])
            row = near_paper((1, None, some[1], points))[1]
            paper = shaped_paper_of(some)
            has = has_shape(some[0], row)
            if has:
                self.assertEqual(paper[1], row)
            self.assertEqual(all(bind == (0, 1) for bind in paper[2]), has)
            found[has] += 1
        self.assertGreater(min(found.values()), 20)

    def test_contrary_heights(self):
        for some in all_shaped(369, 3, (2, 3, 4, 6), 2):
            shape, price, points = some
            other = (CONTRARY[shape], price, tuple((place, f(-q(y)), w) for place, y, w in points))
            word, row, binds = shaped_paper_of(some)
            self.tells(("shaped", row_scaled(row, (-1, 1)), binds), shaped_paper_of, other)

    def test_mirrored_places(self):
        for some in all_shaped(370, 3, (2, 3, 4, 6), 2):
            shape, price, points = some
            mirrored = CONTRARY[shape] if shape in ("rising", "falling") else shape
            other = (mirrored, price, tuple((f(-q(place)), y, w) for place, y, w in points[::-1]))
            word, row, binds = shaped_paper_of(some)
            self.tells(("shaped", mirrored_row(row), binds[::-1]), shaped_paper_of, other)


if __name__ == "__main__":
    unittest.main()
