"""ROWs cut: [18], [19], [20]."""

import random
import unittest

from gentlebends.cutting import are_one, bare_row, part_of, with_cut, without_cut
from gentlebends.errors import NoCut, NoPlace
from gentlebends.rows import is_row, smooth_at, smooth_of
from helpers import Asking, f, fs, q, row, row_value, spread

TENT = (fs(0, 1, 3), (fs(0, 2), fs(2, -1)))


class Cutting(Asking, unittest.TestCase):

    def rows(self, seed, times=50):
        chance = random.Random(seed)
        for time in range(times):
            yield chance, row(chance, None, chance.randint(0, 3), chance.choice((1, 2, 12)))

    def same_values(self, one, other, low, high):
        places = spread(low, high)
        places += [q(cut) for cut in (*one[0], *other[0]) if q(low) <= q(cut) <= q(high)]
        for x in places:
            self.assertEqual(row_value(one, x), row_value(other, x))

    def test_with_cut(self):
        for chance, some in self.rows(50):
            x = f(chance.choice(spread(some[0][0], some[0][-1], 11)))
            more = self.told(with_cut, some, x)
            self.assertTrue(is_row(more))
            self.same_values(some, more, some[0][0], some[0][-1])
            self.assertEqual([q(c) for c in more[0]], sorted({q(c) for c in (*some[0], x)}))
            for cut in some[0]:
                self.tells(some, with_cut, some, cut)

    def test_with_cut_known(self):
        self.tells((fs(0, 1, 2, 3), (fs(0, 2), fs(2, -1), fs(1, -1))), with_cut, TENT, (2, 1))
        self.tells((((0, 1), (1, 2), (1, 1), (3, 1)), (fs(0, 2), fs(1, 2), fs(2, -1))), with_cut, TENT, (1, 2))

    def test_with_cut_outside(self):
        for x in ((-1, 10 ** 11), (4, 1), (-4, 1), (3 * 10 ** 11 + 1, 10 ** 11)):
            self.refuses(NoPlace, {"place": x}, with_cut, TENT, x)

    def test_without_cut(self):
        for chance, some in self.rows(51):
            x = f(chance.choice(spread(some[0][0], some[0][-1], 14)[1:-1]))
            if x not in some[0]:
                more = with_cut(some, x)
                k = more[0].index(x)
                self.tells(some, without_cut, more, k)

    def test_without_cut_refused(self):
        self.refuses(NoCut, {"number": 1}, without_cut, TENT, 1)
        more = with_cut(TENT, (2, 1))
        for k in (0, 1, 3, 4, -1, -2, 10 ** 29, -(10 ** 29)):
            self.refuses(NoCut, {"number": k}, without_cut, more, k)
        self.tells(TENT, without_cut, more, 2)
        for power in (1, 2, 3):
            bump = tuple(fs(*[0] * power, 1))
            self.refuses(NoCut, {"number": 1}, without_cut, (fs(-1, 0, 1), ((), bump)), 1)
        self.tells((fs(-1, 1), ((),)), without_cut, (fs(-1, 0, 1), ((), ())), 1)

    def test_bare(self):
        for chance, some in self.rows(52):
            more = some
            for x in spread(some[0][0], some[0][-1], 6):
                more = with_cut(more, f(x))
            bare = self.told(bare_row, more)
            self.assertTrue(is_row(bare))
            self.assertTrue(all(smooth_at(bare, k) < 3 for k in range(1, len(bare[1]))))
            self.same_values(bare, more, some[0][0], some[0][-1])
            self.tells(bare, bare_row, some)
            self.tells(bare, bare_row, bare)
        self.tells((fs(0, 3), (fs(1, 2, 3, 4),)), bare_row, (fs(0, 3), (fs(1, 2, 3, 4),)))
        self.tells((fs(0, 3), ((),)), bare_row, (fs(0, 1, 2, 3), ((), (), ())))
        self.tells(TENT, bare_row, TENT)

    def test_are_one(self):
        for chance, some in self.rows(53):
            places = spread(some[0][0], some[0][-1], 9)
            one = with_cut(some, f(places[3]))
            other = with_cut(some, f(places[5]))
            self.tells(True, are_one, one, other)
            self.tells(True, are_one, some, some)
            raised = (some[0], tuple((f(q(p[0] if p else (0, 1)) + 1), *p[1:]) for p in some[1]))
            if is_row(raised):
                self.tells(False, are_one, one, raised)

    def test_not_one(self):
        self.tells(False, are_one, (fs(0, 1), ((),)), (fs(0, 2), ((),)))
        self.tells(False, are_one, (fs(0, 2), ((),)), (fs(1, 2), ((),)))
        self.tells(False, are_one, TENT, (fs(0, 3), ((),)))
        self.tells(True, are_one, (fs(0, 1, 3), ((), ())), (fs(0, 2, 3), ((), ())))
        near = (fs(0, 1, 3), (fs(0, 2), (*fs(2, -1, 0), (1, 10 ** 12 - 1))))
        self.tells(False, are_one, TENT, near)

    def test_part(self):
        for chance, some in self.rows(54, 80):
            places = sorted(chance.sample(spread(some[0][0], some[0][-1], 12), 2))
            if chance.random() < 0.3:
                places[0] = q(some[0][0])
            if chance.random() < 0.3:
                places[1] = q(some[0][-1])
            low, high = f(places[0]), f(places[1])
            part = self.told(part_of, some, low, high)
            self.assertTrue(is_row(part))
            due = [low, *[cut for cut in some[0] if places[0] < q(cut) < places[1]], high]
            self.assertEqual(list(part[0]), due)
            self.same_values(some, part, low, high)
            self.assertTrue(len(part[1]) == 1 or smooth_of(part) >= smooth_of(some))
            self.tells(some, part_of, some, some[0][0], some[0][-1])

    def test_part_at_cuts(self):
        self.tells((fs(0, 1), (fs(0, 2),)), part_of, TENT, (0, 1), (1, 1))
        self.tells((fs(1, 3), (fs(2, -1),)), part_of, TENT, (1, 1), (3, 1))
        self.tells((fs(1, 2), (fs(2, -1),)), part_of, TENT, (1, 1), (2, 1))

    def test_part_refused(self):
        for low, high, place in (((-1, 1), (1, 1), (-1, 1)), ((4, 1), (1, 1), (4, 1)), ((-1, 1), (9, 1), (-1, 1)),
                                 ((1, 1), (4, 1), (4, 1)), ((1, 1), (-4, 1), (-4, 1)), ((2, 1), (1, 1), (1, 1)),
                                 ((2, 1), (2, 1), (2, 1)), ((3, 1), (3, 1), (3, 1)), ((3, 1), (4, 1), (4, 1)),
                                 ((0, 1), (0, 1), (0, 1)), ((4, 1), (5, 1), (4, 1))):
            self.refuses(NoPlace, {"place": place}, part_of, TENT, low, high)


if __name__ == "__main__":
    unittest.main()
