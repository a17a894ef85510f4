"""TASKs: [25], [26], [27], [28]."""

import random
import unittest
from fractions import Fraction

from gentlebends.asking import ask_task, cost_of, fault_of, misses_of, places_of
from gentlebends.bending import bending_of
from gentlebends.errors import NoTask
from helpers import (
    FREE, ODD_THINGS, Asking, all_tasks, deep_thing, f, fs, hermite_row, lucas_pair, own_places, q, replaced, row_over,
    row_value, same, spoiled, task,
)

HELD = ("held", (1, 1))
PLAIN = (3, None, (1, 1), (((0, 1), HELD, FREE), ((1, 1), HELD, FREE)))


def points_of(*wishes):
    """Points at 0, 1, 2 .. with these pairs of wishes."""
    return tuple(((k, 1), value, slope) for k, (value, slope) in enumerate(wishes))


class Tasks(Asking, unittest.TestCase):

    def no_task(self, word, number, thing):
        self.refuses(NoTask, {"word": word, "number": number}, ask_task, thing)

    def test_right(self):
        for figures in (1, 2, 30):
            for some in all_tasks(80 + figures, 3, (2, 3, 6), figures):
                self.tells(True, ask_task, some)

    def test_shape_of_odd_things(self):
        for thing in (*ODD_THINGS, deep_thing(), (1, None, (1, 1)), (*PLAIN, ()), list(PLAIN), dict(enumerate(PLAIN))):
            self.no_task("shape", -1, thing)

    def test_shape_parts(self):
        for sort in (0, 2, 4, -1, True, "1", None, (1,), [3], 10 ** 3999, (3, 1)):
            self.no_task("shape", -1, (sort, *PLAIN[1:]))
        for turn in (True, False, 5, "5", [5, 1], (5,), (10, 2), (0, 2), (5, 1, 1), (5, True), ()):
            self.no_task("shape", -1, replaced(PLAIN, (1,), turn))
        for price in (None, 1, (0, 1), (-1, 2), (2, 2), [1, 1], (1, True), (True, 1), True, ()):
            self.no_task("shape", -1, replaced(PLAIN, (2,), price))
        for points in (None, (), PLAIN[3][:1], list(PLAIN[3]), 2, "ab", dict(enumerate(PLAIN[3]))):
            self.no_task("shape", -1, replaced(PLAIN, (3,), points))
        seven = points_of(*[(HELD, FREE)] * 7)
        self.no_task("shape", -1, replaced(PLAIN, (3,), seven))
        self.tells(True, ask_task, replaced(PLAIN, (3,), seven[:6]))

    def test_points(self):
        place = (0, 1)
        wrong = [
            *ODD_THINGS, (place, HELD), (place, HELD, FREE, FREE), [place, HELD, FREE], (0, HELD, FREE),
            ([0, 1], HELD, FREE), ((0, 2), HELD, FREE), ((False, 1), HELD, FREE), (place, list(HELD), FREE),
            (place, ("held",), FREE), (place, ("held", (2, 2)), FREE), (place, ("held", 1), FREE),
            (place, ("held", (1, 1), (1, 1)), FREE), (place, ("near", (1, 1)), FREE),
            (place, ("near", (1, 1), (0, 1)), FREE), (place, ("near", (1, 1), (-1, 1)), FREE),
            (place, ("near", (1, 1), (2, 4)), FREE), (place, ("near", (2, 4), (1, 1)), FREE),
            (place, ("near", (1, 1), (1, 1), (1, 1)), FREE), (place, ("free", (1, 1)), FREE),
            (place, ("free", (1, 1), (1, 1)), FREE), (place, ("least", (1, 1), (1, 1)), FREE),
            (place, ("least",), FREE), (place, ("most", None), FREE), (place, ("Held", (1, 1)), FREE),
            (place, "free", FREE), (place, ["free"], FREE), (place, (), FREE), (place, None, FREE),
            (place, HELD, ("near", (1, 1), (1, 1))), (place, HELD, ("near", (1, 1))), (place, HELD, ("held",)),
            (place, HELD, ("held", True)), (place, HELD, ["free"]), (place, HELD, ()), (place, HELD, "free"),
            (place, HELD, ("least", (1, 1), (1, 1))), (place, HELD, ("most", (2, 2))), (place, HELD, None),
            (place, HELD, (("free",),)), (place, ((1, 1), "held"), FREE), (place, (["held"], (1, 1)), FREE),
        ]
        for thing in wrong:
            self.no_task("point", 0, replaced(PLAIN, (3, 0), thing))
            self.no_task("point", 1, replaced(PLAIN, (3, 1), thing))
            self.no_task("point", 0, replaced(PLAIN, (3,), (thing, thing)))
        wishes = [("held", (1, 1)), ("near", (-1, 2), (1, 9)), ("least", (0, 1)), ("most", (0, 1)), FREE]
        for wish in wishes:
            for slope in wishes:
                thing = (3, None, (1, 1), points_of((HELD, FREE), (wish, slope), (HELD, FREE)))
                if slope[0] == "near":
                    self.no_task("point", 1, thing)
                else:
                    self.tells(True, ask_task, thing)

    def test_sort_one_has_free_slopes(self):
        for slope in (("held", (1, 1)), ("least", (1, 1)), ("most", (1, 1)), ("near", (1, 1), (1, 1))):
            points = points_of((HELD, FREE), (HELD, slope))
            self.no_task("point", 1, (1, None, (1, 1), points))
        self.tells(True, ask_task, (1, None, (1, 1), points_of((HELD, FREE), (HELD, FREE))))

    def test_one_wrong_kind_anywhere(self):
        points = points_of((("near", (1, 2), (3, 1)), FREE), (("least", (0, 1)), ("most", (2, 1))), (HELD, FREE))
        for some in ((3, (5, 1), (1, 3), points), (3, None, (1, 3), points)):
            for path, thing in spoiled(some):
                if len(path) < 2 or path[0] != 3:
                    # Points may be two to six, so one more or fewer of them is another fault or none.
                    if path == (3,) and isinstance(thing[3], tuple):
                        continue
                    self.no_task("shape", -1, thing)
                else:
                    self.no_task("point", path[1], thing)

    def test_places(self):
        for places, k in (((0, 0), 1), ((1, 0), 1), ((0, 2, 1), 2), ((0, 2, 2, 1), 2), ((3, 2, 1), 1), ((0, 1, 0), 2)):
            points = tuple(((place, 1), HELD, FREE) for place in places)
            self.no_task("places", k, (3, None, (1, 1), points))
            self.no_task("places", k, (1, (0, 1), (1, 1), tuple((p[0], FREE, FREE) for p in points)))

    def test_point_ahead_of_places(self):
        points = (((5, 1), HELD, FREE), ((1, 1), HELD, FREE), ((2, 1), HELD, ("free", 1)))
        self.no_task("point", 2, (3, None, (1, 1), points))

    def test_round(self):
        points = points_of((HELD, FREE), (HELD, FREE), (HELD, FREE))
        for turn in ((2, 1), (1, 1), (0, 1), (-5, 1), (2 * 10 ** 29 - 1, 10 ** 29)):
            for sort in (1, 3):
                self.no_task("round", -1, (sort, turn, (1, 1), points))
                self.no_task("round", -1, (sort, turn, (1, 1), points_of((FREE, FREE), (FREE, FREE), (FREE, FREE))))
        for turn in ((3, 1), (300, 1), (2 * 10 ** 29 + 1, 10 ** 29)):
            for sort in (1, 3):
                self.tells(True, ask_task, (sort, turn, (1, 1), points))

    def test_loose(self):
        near, least, most = ("near", (1, 1), (1, 1)), ("least", (1, 1)), ("most", (1, 1))
        held_slope = ("held", (0, 1))
        for some in ((FREE, FREE), (least, most), (FREE, most)):
            wishes = [(wish, FREE) for wish in some]
            self.no_task("loose", -1, (1, None, (1, 1), points_of(*wishes)))
            self.no_task("loose", -1, (1, (5, 1), (1, 1), points_of(*wishes)))
            self.no_task("loose", -1, (3, (5, 1), (1, 1), points_of(*wishes)))
            self.no_task("loose", -1, (3, None, (1, 1), points_of(*wishes)))
            sloped = [(wish, held_slope) for wish in some]
            self.no_task("loose", -1, (3, None, (1, 1), points_of(*sloped)))
            self.no_task("loose", -1, (3, (5, 1), (1, 1), points_of(*sloped)))
        for told in (HELD, near):
            wishes = points_of((least, FREE), (told, FREE))
            self.tells(True, ask_task, (1, None, (1, 1), wishes))
            self.tells(True, ask_task, (1, (5, 1), (1, 1), wishes))
            self.tells(True, ask_task, (3, (5, 1), (1, 1), wishes))
            self.no_task("loose", -1, (3, None, (1, 1), wishes))
            for slope in (least, most):
                self.no_task("loose", -1, (3, None, (1, 1), points_of((least, slope), (told, slope))))
            self.tells(True, ask_task, (3, None, (1, 1), points_of((least, held_slope), (told, FREE))))
            self.tells(True, ask_task, (3, None, (1, 1), points_of((least, FREE), (told, held_slope))))
            self.tells(True, ask_task, (3, None, (1, 1), points_of((near, FREE), (FREE, FREE), (told, FREE))))

    def test_thousands_of_figures(self):
        a, b = lucas_pair(3990)
        points = (((-a, b), ("held", (b, a)), FREE), ((a, b), ("near", (a, b), (b, a)), ("most", (a, b))))
        self.tells(True, ask_task, (3, None, (a, b), points))
        self.tells(True, ask_task, (3, (b, 1), (a, b), points))
        self.no_task("round", -1, (3, (a, b), (a, b), points))
        self.no_task("shape", -1, (3, None, (2 * a, 2 * b), points))
        self.no_task("point", 1, (3, None, (a, b), replaced(points, (1, 2, 1), (3 * a, 3 * b))))

    def test_many_things(self):
        self.no_task("shape", -1, (3, None, (1, 1), ((1, 1),) * 600))
        self.no_task("point", 0, (3, None, (1, 1), (((1, 1),) * 600, ())))


class Places(Asking, unittest.TestCase):

    def test_places(self):
        for some in all_tasks(81, 3):
            self.tells(own_places(some), places_of, some)
        self.tells(fs(0, 1), places_of, PLAIN)
        self.tells(fs(0, 1, Fraction(7, 2)), places_of, replaced(PLAIN, (1,), (7, 2)))


class Faults(Asking, unittest.TestCase):

    def test_kept(self):
        self.tells(None, fault_of, PLAIN, (fs(0, 1), (fs(1),)))
        self.tells(None, fault_of, PLAIN, (fs(0, Fraction(1, 2), 1), (fs(1), fs(1))))
        self.tells(None, fault_of, PLAIN, (fs(0, 1), (fs(1, 1, -1),)))

    def test_stretch(self):
        for cuts in (fs(0, 2), fs(-1, 1), fs(-1, 2), ((0, 1), (10 ** 30 - 1, 10 ** 30))):
            self.tells(("stretch", -1), fault_of, PLAIN, (cuts, ((),)))
        turned = replaced(PLAIN, (1,), (2, 1))
        self.tells(("stretch", -1), fault_of, turned, (fs(0, 1), (fs(1),)))
        self.tells(None, fault_of, turned, (fs(0, 2), (fs(1),)))

    def test_smooth(self):
        bent = (fs(0, Fraction(1, 4), Fraction(1, 2), 1), ((), (), fs(0, 1)))
        self.tells(("smooth", 2), fault_of, PLAIN, bent)
        self.tells(("smooth", 2), fault_of, replaced(PLAIN, (1,), (2, 1)), (fs(0, 1, Fraction(3, 2), 2), bent[1]))
        self.tells(("value", 0), fault_of, (1, *PLAIN[1:]), bent)

    def test_round(self):
        turned = replaced(PLAIN, (1,), (2, 1))
        self.tells(("round", 0), fault_of, turned, (fs(0, 2), (fs(1, 1),)))
        self.tells(("round", 1), fault_of, turned, (fs(0, 2), (fs(5, -2, 1),)))
        self.tells(("value", 0), fault_of, (1, *turned[1:]), (fs(0, 2), (fs(5, -2, 1),)))
        self.tells(("value", 0), fault_of, turned, (fs(0, 2), (fs(5),)))

    def test_wishes(self):
        low, high = (-1, 10 ** 59), (1, 10 ** 59)
        for word, lets in (("held", (0,)), ("least", (0, 1)), ("most", (0, -1))):
            for sign, off in ((-1, low), (0, (0, 1)), (1, high)):
                due = None if sign in lets else ("value", 1)
                some = (3, None, (1, 1), points_of((HELD, FREE), ((word, (1, 1)), FREE), (HELD, FREE)))
                value = f(1 + q(off))
                bump = hermite_row(fs(0, 1, 2), [1, q(value), 1], [0, 0, 0])
                self.tells(due, fault_of, some, bump)
                self.tells(due, fault_of, (1, *some[1:]), bump)
                due = None if sign in lets else ("slope", 1)
                some = (3, None, (1, 1), points_of((HELD, FREE), (FREE, (word, (2, 1))), (HELD, FREE)))
                bump = hermite_row(fs(0, 1, 2), [1, 5, 1], [0, 2 + q(off), 0])
                self.tells(due, fault_of, some, bump)

    def test_near_and_free_are_kept(self):
        points = points_of((("near", (9, 1), (1, 1)), FREE), (("near", (9, 1), (1, 1)), FREE), (FREE, FREE))
        for sort in (1, 3):
            self.tells(None, fault_of, (sort, None, (1, 1), points), (fs(0, 2), (fs(-50, 3, 2, 1),)))

    def test_slopes_at_the_ends(self):
        held = ("held", (2, 1))
        some = (3, None, (1, 1), points_of((HELD, held), (HELD, held)))
        self.tells(None, fault_of, some, hermite_row(fs(0, 1), [1, 1], [2, 2]))
        self.tells(("slope", 0), fault_of, some, hermite_row(fs(0, 1), [1, 1], [1, 1]))
        self.tells(("slope", 1), fault_of, some, hermite_row(fs(0, 1), [1, 1], [2, 3]))

    def test_value_ahead_of_slope_point_by_point(self):
        held = ("held", (2, 1))
        some = (3, None, (1, 1), points_of((HELD, held), (HELD, held), (HELD, held)))
        self.tells(("value", 0), fault_of, some, hermite_row(fs(0, 1, 2), [0, 0, 0], [0, 0, 0]))
        self.tells(("slope", 0), fault_of, some, hermite_row(fs(0, 1, 2), [1, 0, 0], [0, 0, 0]))
        self.tells(("value", 1), fault_of, some, hermite_row(fs(0, 1, 2), [1, 0, 0], [2, 0, 0]))
        self.tells(("slope", 1), fault_of, some, hermite_row(fs(0, 1, 2), [1, 1, 0], [2, 0, 0]))
        self.tells(("value", 2), fault_of, some, hermite_row(fs(0, 1, 2), [1, 1, 0], [2, 2, 0]))
        self.tells(("slope", 2), fault_of, some, hermite_row(fs(0, 1, 2), [1, 1, 1], [2, 2, 0]))
        self.tells(None, fault_of, some, hermite_row(fs(0, 1, 2), [1, 1, 1], [2, 2, 2]))

    def test_wishes_between_cuts(self):
        some = (3, None, (1, 1), points_of((HELD, FREE), (("held", (5, 1)), FREE), (HELD, FREE)))
        self.tells(("value", 1), fault_of, some, (fs(0, 2), (fs(1),)))
        self.tells(None, fault_of, some, (fs(0, 2), (fs(1, 8, -4),)))
        self.tells(None, fault_of, some, (fs(0, Fraction(3, 2), 2), (fs(1, 8, -4), fs(4, -4, -4))))


class Costs(Asking, unittest.TestCase):

    def test_misses_and_cost(self):
        chance = random.Random(82)
        for figures in (1, 2, 30):
            for some in all_tasks(83 + figures, 2, (2, 4, 6), figures, ("near", "free")):
                places = own_places(some)
                smooth = row_over(chance, places, 1, min(figures, 12))
                due = Fraction(0)
                for place, wish, slope in some[3]:
                    if wish[0] == "near":
                        due += q(wish[2]) * (row_value(smooth, q(place)) - q(wish[1])) ** 2
                self.tells(f(due), misses_of, some, smooth)
                cost = q(some[2]) * q(bending_of(some[0], smooth)) + due
                if some[1] is None:
                    self.tells(None, fault_of, some, smooth)
                    self.tells(f(cost), cost_of, some, smooth)

    def test_with_a_round(self):
        chance = random.Random(84)
        for sort in (1, 3):
            some = task(chance, sort, True, 3, 2, ("near", "free"))
            places = own_places(some)
            ring = hermite_row(places, [1, 5, -3, 1], [2, 0, 7, 2])
            self.tells(None, fault_of, some, ring)
            due = q(some[2]) * q(bending_of(sort, ring)) + q(misses_of(some, ring))
            self.tells(f(due), cost_of, some, ring)

    def test_misses_of_none(self):
        self.tells((0, 1), misses_of, PLAIN, (fs(0, 1), (fs(7, 7, 7, 7),)))
        self.tells((4, 1), cost_of, PLAIN, (fs(0, 1), (fs(1, 1, -1),)))

    def test_known(self):
        points = (((0, 1), ("near", (1, 1), (2, 1)), FREE), ((1, 1), ("near", (0, 1), (3, 1)), FREE))
        some = (1, None, (5, 1), points)
        self.tells((5, 1), misses_of, some, (fs(0, 1), (fs(0, 1),)))
        self.tells((10, 1), cost_of, some, (fs(0, 1), (fs(0, 1),)))

    def test_told_strictly(self):
        told = fault_of(PLAIN, (fs(0, 2), ((),)))
        self.assertTrue(same(told, ("stretch", -1)))


if __name__ == "__main__":
    unittest.main()
