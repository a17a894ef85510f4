"""The bounds of a task: [40], [42]."""

import random
import unittest

from gentlebends.boundlists import binding_of, bounds_of, how_many_bounds, priced_of
from gentlebends.leastchecker import lets_least
from gentlebends.leastpapers import least_paper_of
from gentlebends.smoothing import near_paper
from helpers import FREE, Asking, all_tasks, bound_words, f, fs, q, row_value
from test_pulling import row_slope
from test_settling import with_few_bounds

HELD = ("held", (0, 1))


def own_bounds(some):
    """The BOUNDS by the words of [34] and [40]."""
    return [(k, which, wish[0], wish[1]) for k, point in enumerate(some[3]) for which, wish in enumerate(point[1:])
            if wish[0] in ("least", "most")]


class Bounds(Asking, unittest.TestCase):

    def test_in_order(self):
        points = (((0, 1), ("least", (7, 2)), ("most", (-1, 1))), ((1, 1), HELD, ("least", (2, 1))),
                  ((2, 1), ("near", (3, 1), (1, 1)), FREE), ((3, 1), ("most", (5, 1)), ("held", (1, 1))),
                  ((4, 1), FREE, ("most", (0, 1))), ((5, 1), ("least", (1, 9)), ("least", (1, 9))))
        due = [(0, 0, "least", (7, 2)), (0, 1, "most", (-1, 1)), (1, 1, "least", (2, 1)), (3, 0, "most", (5, 1)),
               (4, 1, "most", (0, 1)), (5, 0, "least", (1, 9)), (5, 1, "least", (1, 9))]
        self.tells(due, bounds_of, (3, None, (1, 1), points))
        self.tells(7, how_many_bounds, (3, None, (1, 1), points))
        self.tells(due, bounds_of, (3, (9, 1), (1, 1), points))

    def test_none(self):
        some = (1, None, (1, 1), (((0, 1), HELD, FREE), ((1, 1), FREE, FREE)))
        self.tells([], bounds_of, some)
        self.tells(0, how_many_bounds, some)

    def test_twelve(self):
        least = ("least", (10 ** 29, 3))
        points = tuple(((k, 1), least, least) for k in range(6))
        some = (3, None, (1, 1), points)
        self.tells([(k, which, *least) for k in range(6) for which in (0, 1)], bounds_of, some)
        self.tells(12, how_many_bounds, some)

    def test_by_chance(self):
        for figures in (1, 2, 30):
            for some in all_tasks(220 + figures, 3, (2, 4, 6), figures):
                self.tells(own_bounds(some), bounds_of, some)
                self.tells(len(bound_words(some)), how_many_bounds, some)

    def test_what_is_told_is_the_askers_own(self):
        some = next(iter(all_tasks(224, 1, (6,), 2, ("held", "least", "most"))))
        due = own_bounds(some)
        told = bounds_of(some)
        told.clear()
        self.tells(due, bounds_of, some)


class BindingAndPriced(Asking, unittest.TestCase):

    def look_at(self, some, paper):
        binding, priced = [], []
        for i, (k, which, word, number) in enumerate(own_bounds(some)):
            ask = row_slope if which else row_value
            if ask(paper[1], q(some[3][k][0])) == q(number):
                binding.append(i)
            if paper[2][k][which] != (0, 1):
                priced.append(i)
        self.tells(binding, binding_of, some, paper)
        self.tells(priced, priced_of, some, paper)
        self.assertTrue(set(priced) <= set(binding))
        return binding, priced

    def test_of_least_papers(self):
        found = 0
        for figures in (1, 2, 30):
            for some in all_tasks(225 + figures, 2, (2, 4, 6), figures):
                some = with_few_bounds(some, 4)
                found += len(self.look_at(some, least_paper_of(some))[1])
        self.assertGreater(found, 20)

    def test_however_many_bounds(self):
        # Bounds put around a known least row, right at it or beside it, leave it the least one.
        chance = random.Random(229)
        for some in all_tasks(230, 3, (4, 6), 2, ("held", "near")):
            paper = near_paper(some)
            points, due = [], []
            for place, *wishes in some[3]:
                new = []
                for which, wish in enumerate(wishes):
                    price = paper[2][len(points)][which]
                    if wish[0] == "held" and chance.random() < 0.7 and (len(points), which) != (0, 0):
                        word = {1: "least", -1: "most"}.get((price[0] > 0) - (price[0] < 0), "most")
                        if price[0] != 0:
                            due.append(len(own_bounds((3, None, (1, 1), (*points, (place, *new))))))
                        wish = (word, wish[1])
                    new.append(wish)
                points.append((place, *new))
            bounded = (*some[:3], tuple(points))
            if sum(point[1][0] in ("held", "near") for point in points) < 2:
                continue
            self.tells(True, lets_least, bounded, paper)
            binding, priced = self.look_at(bounded, paper)
            self.assertEqual(priced, due)
            self.assertEqual(binding, list(range(len(own_bounds(bounded)))))

    def test_touched_at_price_nought(self):
        points = (((0, 1), HELD, FREE), ((1, 1), ("least", (1, 1)), FREE), ((2, 1), ("most", (2, 1)), FREE),
                  ((3, 1), ("least", (2, 1)), FREE), ((4, 1), ("held", (4, 1)), FREE))
        row = (fs(0, 1, 2, 3, 4), tuple(fs(k, 1) for k in range(4)))
        for sort, prices in ((1, (fs(-1, 0), *[fs(0, 0)] * 3, fs(1, 0))), (3, (fs(0, 0),) * 5)):
            some = (sort, None, (1, 1), points)
            paper = ("least", row, prices)
            self.tells(True, lets_least, some, paper)
            self.tells([0, 1], binding_of, some, paper)
            self.tells([], priced_of, some, paper)

    def test_slopes_at_the_ends_and_round(self):
        zero = ("least", (0, 1))
        points = (((0, 1), HELD, ("most", (0, 1))), ((1, 1), ("held", (1, 1)), zero))
        for turn in (None, (2, 1)):
            some = (3, turn, (1, 1), points)
            paper = least_paper_of(some)
            self.tells(True, lets_least, some, paper)
            binding, priced = self.look_at(some, paper)
            self.assertEqual(binding, [0] if turn is None else [0, 1])
            self.assertEqual(priced, [0] if turn is None else [])

    def test_none(self):
        some = (1, None, (1, 1), (((0, 1), HELD, FREE), ((1, 1), FREE, FREE)))
        for ask in (binding_of, priced_of):
            self.tells([], ask, some, near_paper(some))

    def test_value_and_slope_of_one_point(self):
        points = (((0, 1), HELD, FREE), ((1, 1), ("least", (1, 1)), ("most", (0, 1))), ((2, 1), HELD, FREE))
        some = (3, None, (1, 1), points)
        paper = least_paper_of(some)
        self.tells([0, 1], binding_of, some, paper)
        self.tells([0], priced_of, some, paper)
        points = (((0, 1), HELD, FREE), ((1, 1), ("most", (1, 1)), ("least", (1, 1))), ((2, 1), HELD, FREE))
        some = (3, None, (1, 1), points)
        paper = least_paper_of(some)
        self.tells([1], binding_of, some, paper)
        self.tells([1], priced_of, some, paper)
        self.assertEqual(f(row_slope(paper[1], q((1, 1)))), (1, 1))


if __name__ == "__main__":
    unittest.main()
