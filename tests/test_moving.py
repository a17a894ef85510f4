"""Points moved: [65], [66], [67], with [4]."""

import random
import unittest
from fractions import Fraction

from gentlebends.asking import ask_task
from gentlebends.errors import NoPoint, NoTask
from gentlebends.leastchecker import lets_least
from gentlebends.moving import bends_dying, slope_share, turned_by, value_share
from gentlebends.pulling import prices_of
from gentlebends.rows import bends_at, value_at
from gentlebends.rowsums import row_scaled, row_sum
from gentlebends.smoothing import near_paper, smoothest_through
from gentlebends.wishes import wish_moved
from helpers import FREE, Asking, all_tasks, f, fraction, fs, own_places, q, replaced, rising, row_value
from movehelpers import own_second_bends, own_unit, told_of

SHARES = (value_share, slope_share)
WORDS = ("held", "near", "free")
PLAIN = (3, None, (1, 1), (
    ((0, 1), ("held", (1, 1)), FREE), ((1, 1), FREE, ("held", (5, 1))), ((2, 1), ("near", (4, 1), (7, 2)), FREE),
    ((4, 1), FREE, FREE),
))


def unit_of(some, k, which):
    """The TASK with 1 in the place of a TOLD number and nought in that of each other one."""
    for j, at, number in told_of(some):
        some = replaced(some, (3, j, 1 + at, 1), f(int((j, at) == (k, which))))
    return some


def tasks(seed, times=1, sizes=(1, 2, 30)):
    for figures in sizes:
        yield from all_tasks(seed + figures, times, (2, 3, 4), figures, WORDS)


def sum_of_rows(rows, like):
    """Rows added, nought of none over the stretch of another one."""
    total = (like[0], tuple(() for piece in like[1]))
    for row in rows:
        total = row_sum(total, row)
    return total


class Shares(Asking, unittest.TestCase):

    def test_by_the_words(self):
        whiches = {0: 0, 1: 0}
        for some in tasks(600):
            for k, which, number in told_of(some):
                unit = unit_of(some, k, which)
                row = self.told(SHARES[which], some, k)
                self.assertEqual(row[0], own_places(some))
                self.tells(True, lets_least, unit, ("least", row, prices_of(unit, row)))
                whiches[which] += 1
        self.assertGreater(min(whiches.values()), 20)

    def test_the_row_is_the_sum_of_told_numbers_times_their_shares(self):
        for some in tasks(601):
            row = near_paper(some)[1]
            parts = [row_scaled(SHARES[which](some, k), number) for k, which, number in told_of(some)]
            self.assertEqual(sum_of_rows(parts, row), row)

    def test_shares_of_all_values_come_to_one(self):
        for some in tasks(602):
            values = [value_share(some, k) for k, which, number in told_of(some) if which == 0]
            total = sum_of_rows(values, values[0])
            self.assertEqual(total, (own_places(some), (((1, 1),),) * len(total[1])))

    def test_shares_times_places_come_to_the_place(self):
        seen = 0
        for some in tasks(603):
            if some[0] == 1 or some[1] is not None:
                continue
            rows = []
            for k, which, number in told_of(some):
                share = SHARES[which](some, k)
                rows.append(share if which == 1 else row_scaled(share, some[3][k][0]))
                seen += which
            total = sum_of_rows(rows, rows[0])
            self.assertEqual(total, (total[0], tuple((cut, (1, 1)) if cut != (0, 1) else fs(0, 1) for cut in total[0][:-1])))
        self.assertGreater(seen, 5)

    def test_own_place(self):
        near = 0
        for some in tasks(604, 2):
            for k, which, number in told_of(some):
                if which == 0:
                    here = row_value(value_share(some, k), q(some[3][k][0]))
                    if some[3][k][1][0] == "held":
                        self.assertEqual(here, 1)
                    else:
                        self.assertTrue(0 < here <= 1)
                        near += 1
        self.assertGreater(near, 40)

    def test_two_near_points(self):
        pairs = 0
        for some in tasks(605, 2):
            near = [k for k, point in enumerate(some[3]) if point[1][0] == "near"]
            for j in near:
                for k in near[near.index(j) + 1:]:
                    (x, (word, y, v), slope), (z, (word, u, w), slope) = some[3][j], some[3][k]
                    one, other = row_value(value_share(some, k), q(x)), row_value(value_share(some, j), q(z))
                    self.assertEqual(q(v) * one, q(w) * other)
                    pairs += 1
        self.assertGreater(pairs, 30)

    def test_other_told_numbers_are_nothing_to_it(self):
        chance = random.Random(606)
        for some in tasks(607, 1, (2,)):
            other = some
            for k, which, number in told_of(some):
                other = wish_moved(other, k, which, fraction(chance))
            for k, which, number in told_of(some):
                self.tells(SHARES[which](some, k), SHARES[which], other, k)

    def test_by_hand(self):
        some = (1, None, (1, 1), (((0, 1), ("held", (7, 1)), FREE), ((1, 1), ("near", (3, 1), (1, 1)), FREE)))
        half = Fraction(1, 2)
        self.tells((fs(0, 1), (fs(1, -half),)), value_share, some, 0)
        self.tells((fs(0, 1), (fs(0, half),)), value_share, some, 1)
        some = (3, None, (9, 1), (((0, 1), ("held", (7, 1)), ("held", (2, 1))), ((2, 1), FREE, FREE)))
        self.tells((fs(0, 2), (fs(1),)), value_share, some, 0)
        self.tells((fs(0, 2), (fs(0, 1),)), slope_share, some, 0)

    def test_a_single_near_value(self):
        some = (1, (5, 1), (1, 1), (((0, 1), ("near", (7, 1), (2, 3)), FREE), ((1, 1), FREE, FREE)))
        self.tells((fs(0, 1, 5), (fs(1), fs(1))), value_share, some, 0)

    def test_what_is_not_told(self):
        for ask, numbers in ((value_share, (1, 3)), (slope_share, (0, 2, 3))):
            for k in (*numbers, -1, -2, -3, -4, -5, 4, 5, 10 ** 29, -10 ** 29):
                self.refuses(NoPoint, {"place": k}, ask, PLAIN, k)
        for k in (1, 3, -1, -4, 4, 10 ** 29):
            self.refuses(NoPoint, {"place": k}, turned_by, PLAIN, k, (1, 1))
        flat = (1, *PLAIN[1:3], tuple((place, wish, FREE) for place, wish, slope in PLAIN[3]))
        for k in range(-1, 5):
            self.refuses(NoPoint, {"place": k}, slope_share, flat, k)

    def test_bounds_come_ahead_of_a_number_that_no_point_has(self):
        for j in range(4):
            for word in ("least", "most"):
                for which in (1, 2):
                    for behind in (j, 3):
                        some = replaced(PLAIN, (3, j, which), (word, (0, 1)))
                        some = replaced(some, (3, behind, 2), ("most", (9, 1)))
                        if not self.is_right(some):
                            continue
                        due = {"word": "bounds", "number": j}
                        for k in (0, 1, 2, 3, 4, -1, 10 ** 29):
                            self.refuses(NoTask, due, value_share, some, k)
                            self.refuses(NoTask, due, slope_share, some, k)
                            self.refuses(NoTask, due, turned_by, some, k, (5, 1))

    def is_right(self, some):
        try:
            return ask_task(some)
        except NoTask:
            return False


class Turned(Asking, unittest.TestCase):

    def test_share_times_how_far_it_is_moved(self):
        chance = random.Random(610)
        for some in tasks(611):
            for k, which, number in told_of(some):
                if which == 0:
                    for value in (fraction(chance, 30), number, (0, 1)):
                        due = row_scaled(value_share(some, k), f(q(value) - q(number)))
                        self.tells(due, turned_by, some, k, value)

    def test_the_row_with_the_other_value(self):
        chance = random.Random(612)
        for some in tasks(613):
            for k, which, number in told_of(some):
                if which == 0:
                    value = fraction(chance, 30)
                    moved = near_paper(wish_moved(some, k, 0, value))[1]
                    self.assertEqual(row_sum(near_paper(some)[1], turned_by(some, k, value)), moved)

    def test_to_the_same_value(self):
        self.tells((fs(0, 1, 2, 4), ((), (), ())), turned_by, PLAIN, 0, (1, 1))
        self.tells((fs(0, 1, 2, 4), ((), (), ())), turned_by, PLAIN, 2, (4, 1))

    def test_by_hand(self):
        some = (1, None, (1, 1), (((0, 1), ("held", (7, 1)), FREE), ((1, 1), ("near", (3, 1), (1, 1)), FREE)))
        self.tells((fs(0, 1), (fs(-4, 2),)), turned_by, some, 0, (3, 1))
        self.tells((fs(0, 1), (fs(0, -1),)), turned_by, some, 1, (1, 1))


class Dying(Asking, unittest.TestCase):

    def each(self, seed):
        chance = random.Random(seed)
        for figures in (1, 2, 30):
            for many in (2, 3, 4, 5, 6):
                places = rising(chance, many, figures)
                for k in range(many):
                    yield places, k

    def test_by_the_words(self):
        for places, k in self.each(620):
            told = self.told(bends_dying, places, k)
            self.assertIs(type(told), list)
            self.assertEqual(told, [f(bend) for bend in own_second_bends(
                [q(place) for place in places], [Fraction(j == k) for j in range(len(places))])])

    def test_both_sides_have_it(self):
        for places, k in self.each(621):
            row = own_unit(3, places, k)
            paper = smoothest_through(3, None, tuple((place, f(int(j == k))) for j, place in enumerate(places)))
            self.assertEqual(paper[1], row)
            for place, bend in zip(places, bends_dying(places, k)):
                self.assertEqual({side[2] for side in bends_at(row, place) if side is not None}, {bend})

    def test_signs_turn_and_sizes_halve(self):
        halved = 0
        for places, k in self.each(622):
            bends = [q(bend) for bend in bends_dying(places, k)]
            last = len(places) - 1
            self.assertEqual((bends[0], bends[last]), (0, 0))
            for j in range(1, last):
                side = -1 if (j - k) % 2 == 0 else 1
                self.assertGreater(side * bends[j], 0)
            for j in range(last + 1):
                if abs(j - k) > 1:
                    towards = bends[j + 1] if j < k else bends[j - 1]
                    self.assertLess(abs(bends[j]), abs(towards) / 2)
                    halved += 1
        self.assertGreater(halved, 50)

    def test_by_hand(self):
        self.tells(list(fs(0, 0)), bends_dying, fs(0, 5), 0)
        self.tells(list(fs(0, -3, 0)), bends_dying, fs(0, 1, 2), 1)
        self.tells(list(fs(0, Fraction(3, 2), 0)), bends_dying, fs(0, 1, 2), 0)
        self.tells(list(fs(0, Fraction(3, 2), 0)), bends_dying, fs(0, 1, 2), 2)

    def test_no_such_place(self):
        for many in (2, 3, 6):
            for k in (-1, -2, -many, many, many + 1, 10 ** 29, -10 ** 29):
                self.refuses(NoPoint, {"place": k}, bends_dying, fs(*range(many)), k)

    def test_told_list_is_the_askers_own(self):
        places = fs(0, 1, 2, 4)
        first = bends_dying(places, 1)
        kept = list(first)
        first.clear()
        self.assertEqual(bends_dying(places, 1), kept)

    def test_moved_value_turns_bends_by_them(self):
        # A held value that grows by 1 turns the second bends of a smoothest row by just the told ones.
        chance = random.Random(623)
        for many in (2, 4, 6):
            places = rising(chance, many)
            some = (3, None, (1, 1), tuple((place, ("held", fraction(chance)), FREE) for place in places))
            for k in range(many):
                value = some[3][k][1][1]
                turned = turned_by(some, k, f(q(value) + 1))
                self.assertEqual(value_at(turned, places[k]), (1, 1))
                second = [(behind or ahead)[2] for ahead, behind in [bends_at(turned, place) for place in places]]
                self.assertEqual(second, bends_dying(places, k))


if __name__ == "__main__":
    unittest.main()
