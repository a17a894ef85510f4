"""The papers of least rows: [41], with [31], [32], [4]."""

import random
import unittest
from fractions import Fraction

from gentlebends.asking import ask_task, cost_of, fault_of
from gentlebends.bending import bending_of
from gentlebends.boundlists import how_many_bounds
from gentlebends.errors import NoPaper, NoTask
from gentlebends.leastchecker import lets_least
from gentlebends.leastpapers import least_paper_of
from gentlebends.rows import value_at
from gentlebends.rowsums import mirrored_row, moved_row, row_scaled, row_sum
from gentlebends.settling import settled_by
from gentlebends.smoothing import near_paper
from helpers import (
    FREE, Asking, all_tasks, bound_words, f, fraction, fs, positive, q, replaced, rising, row_value, same, subsets,
)
from test_pulling import row_slope
from test_settling import keeping_change, with_few_bounds

HELD = ("held", (0, 1))


def bounded_tasks(seed, times, counts, figures):
    """Right TASKs of at most four bounds, mostly of just four."""
    for some in all_tasks(seed, times, counts, figures, ("held", "near", "near", "least", "most", "least", "most", "free")):
        yield with_few_bounds(some, 4)


def full_task(chance, sort, turn, figures=30):
    """A TASK of six points and four bounds, each number of just so many figures above and below."""
    low, high = 10 ** (figures - 1), 10 ** figures - 1

    def any_one():
        return f(chance.choice((-1, 1)) * chance.randint(low, high), chance.randint(low, high))

    def above():
        return f(chance.randint(low, high), chance.randint(low, high))
    places = sorted([any_one() for k in range(6)], key=q)
    wishes = [("near", any_one(), above()) if k in (1, 4) else (chance.choice(("least", "most")), any_one())
              for k in range(6)]
    slopes = [FREE] * 6
    if sort == 3:
        slopes[3], wishes[3] = (chance.choice(("least", "most")), any_one()), HELD
    long = f(q(places[-1]) - q(places[0]) + q(above())) if turn else None
    return (sort, long, above(), tuple(zip(places, wishes, slopes)))


class LeastPapers(Asking, unittest.TestCase):

    def test_just_the_one_of_all_settled_ones(self):
        many = {}
        for figures in (1, 2):
            for some in bounded_tasks(240 + figures, 6, (2, 3, 4, 6), figures):
                paper = self.told(least_paper_of, some)
                found = []
                for tight in subsets(how_many_bounds(some)):
                    settled = settled_by(some, tight)
                    try:
                        lets_least(some, settled)
                    except NoPaper:
                        continue
                    found.append(settled)
                self.assertTrue(found)
                self.assertTrue(all(same(paper, settled) for settled in found))
                many[how_many_bounds(some)] = many.get(how_many_bounds(some), 0) + 1
        self.assertEqual(sorted(many), [0, 1, 2, 3, 4])
        self.assertGreater(many[4], 20)

    def test_great_numbers(self):
        chance = random.Random(243)
        for sort in (1, 3):
            for turn in (False, True):
                some = full_task(chance, sort, turn)
                self.tells(True, ask_task, some)
                self.assertEqual(how_many_bounds(some), 4)
                self.assertTrue(lets_least(some, least_paper_of(some)))
        for some in bounded_tasks(244, 2, (2, 4), 30):
            self.assertTrue(lets_least(some, self.told(least_paper_of, some)))

    def test_no_bounds(self):
        for some in all_tasks(245, 2, (2, 3, 6), 2, ("held", "near", "free")):
            self.tells(near_paper(some), least_paper_of, some)

    def test_bounds_that_push_each_other(self):
        # Four bounds in a row, near one another: those that bind first need not bind in the end.
        chance = random.Random(246)
        for sort in (1, 3):
            for turn in (None, (9, 1)):
                for time in range(25):
                    wishes = [("held", f(chance.randint(-9, 9)))]
                    wishes += [(chance.choice(("least", "most")), f(chance.randint(-9, 9), 2)) for k in range(4)]
                    wishes.append(("near", f(chance.randint(-9, 9)), f(chance.randint(1, 3))))
                    points = tuple(((k, 1), wish, FREE) for k, wish in enumerate(wishes))
                    some = (sort, turn, (1, 1), points)
                    self.tells(True, lets_least, some, self.told(least_paper_of, some))

    def test_bounds_of_values_and_slopes_at_two_points(self):
        chance = random.Random(247)
        for time in range(25):
            for turn in (None, (5, 2)):
                points = []
                for k in range(2):
                    points.append([(k, 1), *[(chance.choice(("least", "most")), fraction(chance)) for which in range(2)]])
                points.append([(2, 1), ("held", fraction(chance)), ("held", fraction(chance))])
                some = (3, turn, positive(chance), tuple(tuple(point) for point in points))
                self.tells(True, lets_least, some, self.told(least_paper_of, some))

    def no_task(self, number, some):
        self.refuses(NoTask, {"word": "bounds", "number": number}, least_paper_of, some)

    def test_five_bounds(self):
        least = ("least", (-5, 1))
        points = [((k, 1), HELD, FREE) for k in range(6)]
        some = (3, None, (1, 1), tuple(points))
        for k in range(6):
            some = replaced(some, (3, k, 2), least)
            if k < 4:
                self.tells(True, lets_least, some, least_paper_of(some))
            else:
                self.no_task(4, some)
        mixed = (3, None, (1, 1), tuple(((k, 1), HELD, least) for k in range(3)) + (((3, 1), least, least),))
        self.no_task(3, mixed)
        self.tells(True, lets_least, with_few_bounds(mixed, 4), least_paper_of(with_few_bounds(mixed, 4)))
        some = (3, (9, 1), (1, 1), (((0, 1), least, least), ((1, 1), least, least), ((2, 1), HELD, least), points[3]))
        self.no_task(2, some)
        some = (1, None, (1, 1), tuple(((k, 1), least, FREE) for k in range(5)) + (points[5],))
        self.no_task(4, some)
        some = (1, None, (1, 1), (points[0], *[((k, 1), least, FREE) for k in range(1, 6)]))
        self.no_task(5, some)
        some = (3, None, (1, 1), tuple(((k, 1), HELD, least) for k in range(6)))
        self.no_task(4, some)

    def test_five_bounds_by_chance(self):
        for some in all_tasks(248, 4, (4, 6), 2, ("held", "least", "most")):
            if len(bound_words(some)) > 4:
                fifth = [k for k, point in enumerate(some[3]) for wish in point[1:] if wish[0] in ("least", "most")][4]
                self.no_task(fifth, some)

    def test_by_hand(self):
        points = (((0, 1), HELD, FREE), ((1, 1), ("least", (1, 1)), FREE), ((2, 1), HELD, FREE))
        due = ("least", (fs(0, 1, 2), (fs(0, 1), fs(1, -1))), (fs(-1, 0), fs(2, 0), fs(-1, 0)))
        self.tells(due, least_paper_of, (1, None, (1, 1), points))
        below = replaced(points, (1, 1), ("most", (1, 1)))
        self.tells(("least", (fs(0, 1, 2), ((), ())), (fs(0, 0),) * 3), least_paper_of, (1, None, (1, 1), below))
        touched = replaced(points, (1, 1), ("most", (0, 1)))
        self.tells(("least", (fs(0, 1, 2), ((), ())), (fs(0, 0),) * 3), least_paper_of, (3, None, (1, 1), touched))
        # The second bound lifts the row above the first one.
        points = (((0, 1), HELD, FREE), ((1, 1), ("least", (1, 1)), FREE), ((2, 1), ("least", (4, 1)), FREE))
        due = ("least", (fs(0, 1, 2), (fs(0, 2), fs(2, 2))), (fs(-2, 0), fs(0, 0), fs(2, 0)))
        self.tells(due, least_paper_of, (1, None, (1, 1), points))

    def test_slope_bounds_by_hand(self):
        points = (((0, 1), HELD, FREE), ((1, 1), HELD, ("least", (1, 1))))
        due = ("least", (fs(0, 1), (fs(0, Fraction(-1, 2), 0, Fraction(1, 2)),)), (fs(3, 0), fs(-3, 3)))
        self.tells(due, least_paper_of, (3, None, (1, 1), points))
        points = replaced(points, (1, 2), ("most", (1, 1)))
        self.tells(("least", (fs(0, 1), ((),)), (fs(0, 0),) * 2), least_paper_of, (3, None, (1, 1), points))

    def test_other_rows_cost_more(self):
        chance = random.Random(249)
        for some in bounded_tasks(250, 3, (2, 3, 4), 2):
            word, row, prices = least_paper_of(some)
            for time in range(2):
                h = keeping_change(chance, some)
                other = row_sum(row, h)
                self.tells(None, fault_of, some, other)
                more = q(some[2]) * q(bending_of(some[0], h))
                for (place, wish, slope), (a, b) in zip(some[3], prices):
                    parts = (q(a) * row_value(h, q(place)), q(b) * row_slope(h, q(place)))
                    self.assertGreaterEqual(min(parts), 0)
                    more += 2 * sum(parts) + (q(wish[2]) * row_value(h, q(place)) ** 2 if wish[0] == "near" else 0)
                self.assertEqual(q(cost_of(some, other)) - q(cost_of(some, row)), more)
                self.assertEqual(more > 0, any(piece for piece in h[1]))


def turned_task(some, place_by, value_by, slope_by, mirrored=False):
    """A TASK with other places, values and slopes; mirrored, bounds of slopes change sides."""
    sides = {"least": "most", "most": "least"}
    points = []
    for place, value, slope in some[3]:
        if value != FREE:
            value = (value[0], f(value_by(q(value[1]))), *value[2:])
        if slope != FREE:
            word = sides.get(slope[0], slope[0]) if mirrored else slope[0]
            slope = (word, f(slope_by(q(slope[1]))))
        points.append((f(place_by(q(place))), value, slope))
    if mirrored:
        points.reverse()
    return (*some[:3], tuple(points))


class TurnedTasks(Asking, unittest.TestCase):
    """The last part of [4]."""

    def each(self, seed):
        chance = random.Random(seed)
        for figures in (1, 2, 12):
            for some in bounded_tasks(seed + figures, 1, (2, 3, 4), figures):
                yield some, q(fraction(chance, figures)), q(positive(chance, figures))

    def test_moved(self):
        for some, a, c in self.each(260):
            other = turned_task(some, lambda x: x + a, lambda y: y, lambda s: s)
            self.assertEqual(least_paper_of(other)[1], moved_row(least_paper_of(some)[1], f(a)))

    def test_raised(self):
        for some, a, c in self.each(264):
            other = turned_task(some, lambda x: x, lambda y: y + a, lambda s: s)
            row = least_paper_of(some)[1]
            level = (row[0], ((f(a),) if a else (),) * len(row[1]))
            self.assertEqual(least_paper_of(other)[1], row_sum(row, level))
            self.assertEqual(least_paper_of(other)[2], least_paper_of(some)[2])

    def test_mirrored(self):
        for some, a, c in self.each(268):
            if some[1] is not None:
                continue
            other = turned_task(some, lambda x: -x, lambda y: y, lambda s: -s, True)
            word, row, prices = least_paper_of(some)
            due = tuple((a, f(-q(b))) for a, b in prices[::-1])
            self.tells(("least", mirrored_row(row), due), least_paper_of, other)

    def test_stretched(self):
        for some, a, c in self.each(272):
            other = turned_task(some, lambda x: x * c, lambda y: y, lambda s: s / c)
            turn = None if some[1] is None else f(q(some[1]) * c)
            other = (some[0], turn, f(q(some[2]) * c ** some[0]), other[3])
            row, long = least_paper_of(some)[1], least_paper_of(other)[1]
            self.assertEqual(long[0], tuple(f(q(cut) * c) for cut in row[0]))
            for piece, stretched in zip(row[1], long[1]):
                self.assertEqual(stretched, tuple(f(q(number) / c ** k) for k, number in enumerate(piece)))

    def test_turned_upside_down(self):
        sides = {"least": "most", "most": "least"}
        for some, a, c in self.each(276):
            points = []
            for place, *wishes in some[3]:
                new = [wish if wish == FREE else (sides.get(wish[0], wish[0]), f(-q(wish[1])), *wish[2:])
                       for wish in wishes]
                points.append((place, *new))
            other = (*some[:3], tuple(points))
            self.assertEqual(least_paper_of(other)[1], row_scaled(least_paper_of(some)[1], (-1, 1)))

    def test_a_round_begun_at_another_point(self):
        chance = random.Random(280)
        for sort in (1, 3):
            for time in range(6):
                places = rising(chance, 4)
                turn = f(q(places[-1]) - q(places[0]) + q(positive(chance)))
                points = [(place, ("near", fraction(chance), positive(chance)), FREE) for place in places]
                points[2] = (places[2], ("least", fraction(chance)), FREE)
                some = (sort, turn, (1, 1), tuple(points))
                first = points.pop(0)
                points.append((f(q(first[0]) + q(turn)), *first[1:]))
                other = (sort, turn, (1, 1), tuple(points))
                row, later = least_paper_of(some)[1], least_paper_of(other)[1]
                self.assertEqual(later[1], (*row[1][1:], row[1][0]))
                for place, *wishes in points[:3]:
                    self.assertEqual(value_at(later, place), value_at(row, place))


if __name__ == "__main__":
    unittest.main()
