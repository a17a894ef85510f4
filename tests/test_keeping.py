"""Keepers: [68], [69]."""

import random
import unittest
from fractions import Fraction

from gentlebends.bending import bending_of
from gentlebends.cutting import are_one, part_of
from gentlebends.errors import NoOne, NoPoint, NoStretch, Twice
from gentlebends.keeping import Keeper
from gentlebends.moving import turned_by
from gentlebends.rows import is_row, value_at
from gentlebends.rowsums import row_scaled, row_sum
from gentlebends.smoothing import smoothest_through
from helpers import FREE, Asking, f, fraction, fs, q, rising, row, row_value, same
from movehelpers import own_smoothest, own_unit


def keeper_of(sort, *points):
    """A Keeper with these points, pairs of Python's own numbers."""
    keeper = Keeper(sort)
    for place, value in points:
        keeper.put(f(place), f(value))
    return keeper


def full_keeper(chance, sort, many, figures=2):
    keeper = Keeper(sort)
    for place in chance.sample(rising(chance, many, figures), many):
        keeper.put(place, fraction(chance, figures))
    return keeper


class Deeds(Asking, unittest.TestCase):

    def points(self, keeper, *due):
        due = [(f(place), f(value)) for place, value in due]
        for time in range(2):
            self.assertTrue(same(keeper.points_now(), due), keeper.points_now())

    def test_at_first_none(self):
        for sort in (1, 3):
            self.points(Keeper(sort))
            self.assertIs(Keeper(sort).back(), False)

    def test_put_move_out(self):
        for sort in (1, 3):
            keeper = Keeper(sort)
            self.assertTrue(same([keeper.put((3, 1), (1, 2)), keeper.put((-1, 2), (5, 1)), keeper.put((1, 1), (0, 1))], [1, 2, 3]))
            self.points(keeper, (Fraction(-1, 2), 5), (1, 0), (3, Fraction(1, 2)))
            self.assertTrue(same(keeper.move((1, 1), (7, 3)), 3))
            self.points(keeper, (Fraction(-1, 2), 5), (1, Fraction(7, 3)), (3, Fraction(1, 2)))
            self.assertTrue(same(keeper.out((-1, 2)), 2))
            self.points(keeper, (1, Fraction(7, 3)), (3, Fraction(1, 2)))
            self.assertTrue(same([keeper.out((3, 1)), keeper.out((1, 1))], [1, 0]))
            self.points(keeper)

    def test_refused(self):
        keeper = keeper_of(3, (0, 1), (2, 5))
        self.refuses(Twice, {"place": (0, 1)}, keeper.put, (0, 1), (9, 1))
        self.refuses(Twice, {"place": (2, 1)}, keeper.put, (2, 1), (5, 1))
        for x in ((1, 1), (-1, 1), (3, 1), (1, 2), (2 * 10 ** 29 + 1, 10 ** 29)):
            self.refuses(NoPoint, {"place": x}, keeper.move, x, (1, 1))
            self.refuses(NoPoint, {"place": x}, keeper.out, x)
        self.points(keeper, (0, 1), (2, 5))
        empty = Keeper(1)
        self.refuses(NoPoint, {"place": (0, 1)}, empty.move, (0, 1), (1, 1))
        self.refuses(NoPoint, {"place": (0, 1)}, empty.out, (0, 1))
        self.assertIs(empty.back(), False)

    def test_back(self):
        keeper = keeper_of(1, (0, 1))
        keeper.put((1, 1), (2, 1))
        keeper.move((0, 1), (9, 1))
        keeper.out((1, 1))
        self.points(keeper, (0, 9))
        for due in (((0, 9), (1, 2)), ((0, 1), (1, 2)), ((0, 1),), ()):
            self.assertIs(keeper.back(), True)
            self.points(keeper, *due)
        self.assertIs(keeper.back(), False)
        self.assertIs(keeper.back(), False)
        self.points(keeper)

    def test_back_behind_a_back_and_a_third_deed(self):
        keeper = Keeper(3)
        keeper.put((0, 1), (1, 1))
        keeper.put((1, 1), (2, 1))
        self.assertIs(keeper.back(), True)
        keeper.put((2, 1), (3, 1))
        self.points(keeper, (0, 1), (2, 3))
        self.assertIs(keeper.back(), True)
        self.points(keeper, (0, 1))
        self.assertIs(keeper.back(), True)
        self.points(keeper)
        self.assertIs(keeper.back(), False)

    def test_refused_deeds_are_none(self):
        keeper = keeper_of(3, (0, 1))
        keeper.move((0, 1), (4, 1))
        for time in range(3):
            with self.assertRaises(Twice):
                keeper.put((0, 1), (8, 1))
            with self.assertRaises(NoPoint):
                keeper.out((5, 1))
            with self.assertRaises(NoOne):
                keeper.row_now()
        self.assertIs(keeper.back(), True)
        self.points(keeper, (0, 1))
        self.assertIs(keeper.back(), True)
        self.assertIs(keeper.back(), False)

    def test_a_move_to_the_same_value_is_a_deed(self):
        keeper = keeper_of(3, (0, 1))
        keeper.move((0, 1), (2, 1))
        self.assertTrue(same(keeper.move((0, 1), (2, 1)), 1))
        self.assertIs(keeper.back(), True)
        self.points(keeper, (0, 2))
        self.assertIs(keeper.back(), True)
        self.points(keeper, (0, 1))

    def test_asking_is_no_deed(self):
        keeper = keeper_of(3, (0, 1), (1, 2))
        keeper.row_now()
        keeper.share_now((0, 1))
        keeper.turned_from(keeper.row_now())
        keeper.points_now()
        keeper.back()
        self.points(keeper, (0, 1))

    def test_by_chance(self):
        chance = random.Random(630)
        for figures in (1, 30):
            for time in range(60):
                keepers = [Keeper(chance.choice((1, 3))) for k in range(2)]
                states = [[{}], [{}]]
                for deed in range(44):
                    # Two keepers in turn: neither touches the other.
                    which = chance.randrange(2)
                    self.one_deed(chance, keepers[which], states[which], figures)
                    for keeper, stood in zip(keepers, states):
                        self.assertTrue(same(keeper.points_now(), sorted(stood[-1].items(), key=lambda point: q(point[0]))))

    def one_deed(self, chance, keeper, stood, figures):
        """A deed by chance, done by a Keeper and by an own list of all that stood."""
        now = dict(stood[-1])
        place, value = fraction(chance, figures), fraction(chance, figures)
        if now and chance.random() < 0.6:
            place = chance.choice(list(now))
        word = chance.choice(("put", "put", "put", "move", "out", "back"))
        if word == "back":
            self.assertIs(keeper.back(), len(stood) > 1)
            del stood[max(1, len(stood) - 1):]
            return
        kind = Twice if word == "put" else NoPoint
        things = (place,) if word == "out" else (place, value)
        if (place in now) == (word == "put"):
            self.refuses(kind, {"place": place}, getattr(keeper, word), *things)
            return
        if word == "put" and len(now) == 6:
            return
        if word == "out":
            del now[place]
        else:
            now[place] = value
        stood.append(now)
        self.assertTrue(same(getattr(keeper, word)(*things), len(now)))

    def test_told_lists_are_the_askers_own(self):
        keeper = keeper_of(1, (0, 1), (1, 2))
        first = keeper.points_now()
        first.append(((5, 1), (5, 1)))
        first[0] = None
        self.points(keeper, (0, 1), (1, 2))
        kept = keeper.points_now()
        keeper.move((0, 1), (9, 1))
        self.assertEqual(kept, [((0, 1), (1, 1)), ((1, 1), (2, 1))])

    def test_methods_stand_in_the_class(self):
        for name in ("put", "move", "out", "back", "points_now", "row_now", "share_now", "turned_from"):
            self.assertIn(name, vars(Keeper))


class Rows(Asking, unittest.TestCase):

    def each(self, seed, counts=(2, 3, 6), sizes=(1, 2, 30)):
        chance = random.Random(seed)
        for figures in sizes:
            for many in counts:
                for sort in (1, 3):
                    yield sort, full_keeper(chance, sort, many, figures), chance

    def test_row(self):
        for sort, keeper, chance in self.each(640):
            points = keeper.points_now()
            told = self.told(keeper.row_now)
            self.assertEqual(told, own_smoothest(sort, points))
            self.assertEqual(told, smoothest_through(sort, None, tuple(points))[1])

    def test_row_goes_with_the_deeds(self):
        keeper = keeper_of(3, (0, 0), (1, 1), (2, 0))
        first = keeper.row_now()
        keeper.move((1, 1), (0, 1))
        self.tells((fs(0, 1, 2), ((), ())), keeper.row_now)
        keeper.out((1, 1))
        self.tells((fs(0, 2), ((),)), keeper.row_now)
        keeper.back()
        keeper.back()
        self.tells(first, keeper.row_now)
        self.tells((fs(0, 1, 2), (fs(0, Fraction(3, 2), 0, Fraction(-1, 2)), fs(1, 0, Fraction(-3, 2), Fraction(1, 2)))),
                   keeper.row_now)

    def test_share(self):
        for sort, keeper, chance in self.each(641):
            points = keeper.points_now()
            places = tuple(place for place, value in points)
            for k, (place, value) in enumerate(points):
                share = self.told(keeper.share_now, place)
                self.assertEqual(share, own_unit(sort, places, k))
                self.assertEqual(share[0], places)
                ahead = keeper.row_now()
                keeper.move(place, f(q(value) + 1))
                self.tells(row_sum(ahead, share), keeper.row_now)
                keeper.back()
                some = (sort, None, (1, 1), tuple((x, ("held", y), FREE) for x, y in points))
                self.assertEqual(turned_by(some, k, f(q(value) + 1)), share)

    def test_share_of_no_point(self):
        keeper = keeper_of(3, (0, 1), (2, 5))
        for x in ((1, 1), (3, 1), (-1, 1), (1, 7)):
            self.refuses(NoPoint, {"place": x}, keeper.share_now, x)

    def test_too_few_points_come_first(self):
        far = (fs(50, 60), ((),))
        for sort in (1, 3):
            for points in ((), ((0, 1),)):
                keeper = keeper_of(sort, *points)
                self.refuses(NoOne, {}, keeper.row_now)
                for x in ((0, 1), (7, 1)):
                    self.refuses(NoOne, {}, keeper.share_now, x)
                for other in (far, (fs(0, 1), ((),))):
                    self.refuses(NoOne, {}, keeper.turned_from, other)
            keeper = keeper_of(sort, (0, 1), (1, 1))
            self.tells((fs(0, 1), (fs(1),)), keeper.row_now)
            keeper.out((0, 1))
            self.refuses(NoOne, {}, keeper.row_now)

    def test_turned_from(self):
        seen = 0
        for sort, keeper, chance in self.each(642, (2, 3, 4, 6), (1, 1, 2)):
            own = keeper.row_now()
            for time in range(6):
                other = row(chance, None, 0, 1)
                low, high = max(q(own[0][0]), q(other[0][0])), min(q(own[0][-1]), q(other[0][-1]))
                if not low < high:
                    self.refuses(NoStretch, {}, keeper.turned_from, other)
                    continue
                seen += 1
                turned = self.told(keeper.turned_from, other)
                self.assertTrue(is_row(turned))
                cuts = {low, high, *[q(cut) for cut in (*own[0], *other[0]) if low < q(cut) < high]}
                self.assertEqual(turned[0], tuple(f(cut) for cut in sorted(cuts)))
                for k, piece in enumerate(turned[1]):
                    begin, end = q(turned[0][k]), q(turned[0][k + 1])
                    for part in range(5):
                        x = begin + (end - begin) * Fraction(part, 4)
                        self.assertEqual(row_value(turned, x), row_value(own, x) - row_value(other, x))
        self.assertGreater(seen, 40)

    def test_no_stretch_or_a_single_place(self):
        for sort in (1, 3):
            keeper = keeper_of(sort, (0, 1), (2, 5))
            for begin, end in ((2, 3), (-1, 0), (3, 4), (-9, -8), (2, 10 ** 9)):
                self.refuses(NoStretch, {}, keeper.turned_from, (fs(begin, end), (fs(1),)))
            tiny = Fraction(1, 10 ** 29)
            self.tells((fs(2 - tiny, 2), (fs(5 - 2 * tiny, 2),)), keeper.turned_from, (fs(2 - tiny, 3), ((),)))

    def test_by_hand(self):
        keeper = keeper_of(1, (0, 0), (2, 4), (3, 0))
        self.tells((fs(1, 2, Fraction(5, 2)), (fs(0, 1), fs(1, -5))), keeper.turned_from, (fs(1, Fraction(5, 2)), (fs(2, 1),)))
        self.tells((fs(0, 1, 2, 3), ((), fs(0, 1), fs(1, -5))), keeper.turned_from, (fs(-1, 1, 9), (fs(-2, 2), fs(2, 1))))

    def test_a_point_put_on_the_row_turns_nothing(self):
        for sort, keeper, chance in self.each(643, (2, 4, 5)):
            ahead = keeper.row_now()
            begin, end = q(ahead[0][0]), q(ahead[0][-1])
            x = f(begin + (end - begin) * Fraction(chance.randint(1, 96), 97))
            keeper.put(x, value_at(ahead, x))
            turned = keeper.turned_from(ahead)
            self.assertEqual(turned[1], ((),) * len(keeper.points_now()[1:]))
            self.assertTrue(are_one(keeper.row_now(), ahead))

    def test_bending_grows_by_just_that_of_what_is_turned(self):
        for sort, keeper, chance in self.each(644, (2, 4, 5)):
            ahead = keeper.row_now()
            begin, end = q(ahead[0][0]), q(ahead[0][-1])
            x = f(begin + (end - begin) * Fraction(chance.randint(1, 96), 97))
            keeper.put(x, fraction(chance))
            turned = keeper.turned_from(ahead)
            grown = q(bending_of(sort, keeper.row_now())) - q(bending_of(sort, ahead))
            self.assertEqual(grown, q(bending_of(sort, turned)))

    def test_a_moved_point_turns_the_row_by_its_share(self):
        for sort, keeper, chance in self.each(645, (2, 4, 6)):
            ahead = keeper.row_now()
            place, value = chance.choice(keeper.points_now())
            by = fraction(chance)
            share = keeper.share_now(place)
            keeper.move(place, f(q(value) + q(by)))
            self.tells(row_scaled(share, by), keeper.turned_from, ahead)

    def test_a_point_put_beyond_the_stretch(self):
        keeper = keeper_of(3, (0, 1), (1, 3), (2, 0))
        ahead = keeper.row_now()
        keeper.put((5, 1), (1, 1))
        turned = keeper.turned_from(ahead)
        self.assertEqual(turned[0], fs(0, 1, 2))
        self.assertEqual(row_sum(ahead, turned), part_of(keeper.row_now(), (0, 1), (2, 1)))

    def test_two_keepers_do_not_touch_one_another(self):
        one, other = keeper_of(1, (0, 0), (1, 1), (2, 5)), keeper_of(3, (0, 0), (1, 1), (2, 5))
        first, second = one.row_now(), other.row_now()
        self.assertNotEqual(first, second)
        one.move((0, 1), (9, 1))
        one.back()
        one.back()
        self.tells(second, other.row_now)
        self.assertEqual(len(one.points_now()), 2)


if __name__ == "__main__":
    unittest.main()
