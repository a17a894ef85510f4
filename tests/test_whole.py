"""Over the whole program: [1], [2], [4], with what its parts tell handed on to one another."""

import random
import unittest
from fractions import Fraction

from gentlebends.asking import cost_of, fault_of
from gentlebends.bending import bending_of
from gentlebends.crossing import sheet_through, unit_sheet
from gentlebends.cutting import are_one
from gentlebends.heading import heads_of
from gentlebends.keeping import Keeper
from gentlebends.leastchecker import lets_least
from gentlebends.leastpapers import least_paper_of
from gentlebends.leveling import levels_of, slope_row
from gentlebends.meetchecker import lets_meets
from gentlebends.meeting import meets_paper
from gentlebends.moving import bends_dying, slope_share, turned_by, value_share
from gentlebends.putting import put_in, taken_out
from gentlebends.rows import value_at
from gentlebends.rowsums import mirrored_row, moved_row, row_scaled, row_sum
from gentlebends.shapechecker import lets_shaped
from gentlebends.shapepapers import shaped_paper_of
from gentlebends.shares import row_of_shares, shares_of_row
from gentlebends.sheeting import height_at, row_at_x, row_at_y, under_sheet
from gentlebends.smoothing import near_paper, smoothest_through
from gentlebends.topchecker import lets_below
from gentlebends.topping import below_paper, highest_of
from gentlebends.turnchecker import lets_turns
from gentlebends.turnpapers import turns_paper
from gentlebends.wishes import wish_moved
from helpers import Asking, all_tasks, f, fraction, positive, q, rising, row_value, same, spread
from knothelpers import all_knots, some_shares
from movehelpers import told_of
from sheethelpers import all_values, between, own_height, places_on
from test_leastpapers import bounded_tasks, turned_task
from test_putting import free_places
from test_settling import keeping_change

SHARES = (value_share, slope_share)


def stretched_row(row, c):
    """A ROW stretched c times."""
    return (tuple(f(q(cut) * c) for cut in row[0]),
            tuple(tuple(f(q(number) / c ** k) for k, number in enumerate(piece)) for piece in row[1]))


class Tasks(Asking, unittest.TestCase):

    def test_mirrored_all_round(self):
        # The mirrored round begins at another point: values are alike where places are, but for whole rounds.
        for figures in (1, 2):
            for some in bounded_tasks(900 + figures, 2, (2, 3, 4), figures):
                if some[1] is None:
                    continue
                turn = q(some[1])
                other = turned_task(some, lambda x: -x, lambda y: y, lambda s: -s, True)
                row, mirrored = least_paper_of(some)[1], least_paper_of(other)[1]
                begin = q(row[0][0])
                for x in spread(mirrored[0][0], mirrored[0][-1], 13):
                    here = begin + (-x - begin) % turn
                    self.assertEqual(row_value(mirrored, x), row_value(row, here))
                self.assertEqual(cost_of(some, row), cost_of(other, mirrored))

    def test_share_rows_of_turned_tasks(self):
        chance = random.Random(903)
        for some in all_tasks(904, 1, (2, 3, 4), 2, ("held", "near", "free")):
            a, c = q(fraction(chance)), q(positive(chance))
            moved = turned_task(some, lambda x: x + a, lambda y: y, lambda s: s)
            raised = turned_task(some, lambda x: x, lambda y: y + a, lambda s: s)
            long = turned_task(some, lambda x: x * c, lambda y: y, lambda s: s / c)
            turn = None if some[1] is None else f(q(some[1]) * c)
            long = (some[0], turn, f(q(some[2]) * c ** some[0]), long[3])
            for k, which, number in told_of(some):
                share = SHARES[which](some, k)
                self.assertEqual(SHARES[which](moved, k), moved_row(share, f(a)))
                self.assertEqual(SHARES[which](raised, k), share)
                # A slope that is told 1 is c times steeper over a stretch c times as long.
                by = (1, 1) if which == 0 else f(c)
                self.assertEqual(SHARES[which](long, k), row_scaled(stretched_row(share, c), by))
                if some[1] is None:
                    mirrored = turned_task(some, lambda x: -x, lambda y: y, lambda s: -s, True)
                    told = SHARES[which](mirrored, len(some[3]) - 1 - k)
                    self.assertEqual(told, row_scaled(mirrored_row(share), (1 - 2 * which, 1)))

    def test_each_other_row_costs_more(self):
        chance = random.Random(905)
        for some in bounded_tasks(906, 1, (2, 3, 4), 2):
            row = least_paper_of(some)[1]
            for time in range(3):
                change = keeping_change(chance, some)
                other = row_sum(row, change)
                self.tells(None, fault_of, some, other)
                if not are_one(other, row):
                    self.assertGreater(q(cost_of(some, other)), q(cost_of(some, row)))

    def test_a_moved_point_turns_the_row_by_its_own_share(self):
        chance = random.Random(907)
        for some in all_tasks(908, 1, (2, 4), 2, ("held", "near", "free")):
            row = near_paper(some)[1]
            total = row
            for k, which, number in told_of(some):
                value = fraction(chance)
                moved = wish_moved(some, k, which, value)
                turned = row_scaled(SHARES[which](some, k), f(q(value) - q(number)))
                if which == 0:
                    self.tells(turned, turned_by, some, k, value)
                self.assertEqual(near_paper(moved)[1], row_sum(row, turned))
                self.assertTrue(lets_least(moved, near_paper(moved)))
                some, row, total = moved, near_paper(moved)[1], row_sum(total, turned)
            self.assertEqual(total, row)


class Rows(Asking, unittest.TestCase):

    def test_knots_put_in_and_taken_out_turn_no_row(self):
        chance = random.Random(910)
        for degree, knots in all_knots(911, 1):
            shares = some_shares(chance, degree, knots)
            row = row_of_shares(degree, knots, shares)
            pair = (knots, shares)
            standing = []
            for time in range(8):
                if standing and (len(standing) == 4 or chance.random() < 0.4):
                    x = standing.pop(chance.randrange(len(standing)))
                    pair = taken_out(degree, *pair, pair[0].index(x))
                else:
                    standing.append(free_places(chance, degree, pair[0], 1)[0])
                    pair = put_in(degree, *pair, standing[-1])
                self.assertTrue(are_one(row_of_shares(degree, *pair), row))
                self.assertEqual(pair[1], shares_of_row(degree, pair[0], row))
                turns = len(pair[1])
                self.assertTrue(lets_turns(degree, row, turns, turns_paper(degree, pair[0], row, ())))
            for x in standing:
                pair = taken_out(degree, *pair, pair[0].index(x))
            self.assertEqual(pair, (knots, shares))

    def test_smoothest_rows_as_rows_of_hills(self):
        chance = random.Random(912)
        for many in (2, 4, 6):
            places = rising(chance, many)
            row = smoothest_through(3, None, tuple((place, fraction(chance)) for place in places))[1]
            knots = (places[0],) * 3 + places + (places[-1],) * 3
            shares = shares_of_row(3, knots, row)
            self.assertEqual(row_of_shares(3, knots, shares), row)
            self.assertTrue(lets_turns(3, row, len(shares), turns_paper(3, knots, row, ())))

    def test_papers_of_smoothest_rows(self):
        chance = random.Random(913)
        words = set()
        for time in range(12):
            heights = tuple((place, fraction(chance)) for place in rising(chance, chance.randint(2, 5)))
            row = smoothest_through(chance.choice((1, 3)), None, heights)[1]
            for many in (0, 2, 4):
                low, high = highest_of(row, many)
                for bound in (low, high, f((q(low) + q(high)) / 2), f(q(low) - 1)):
                    paper = below_paper(row, bound, many)
                    words.add(paper[0])
                    if paper != ("open",):
                        self.assertTrue(lets_below(row, bound, paper))
                    if paper[0] == "below":
                        places = spread(row[0][0], row[0][-1], 40)
                        self.assertTrue(all(row_value(row, x) <= q(bound) for x in places))
                paper = meets_paper(row, heights[0][1], min(many, 3))
                if paper != ("open",):
                    self.assertTrue(lets_meets(row, heights[0][1], paper))
                    self.assertGreater(paper[2], 0)
        self.assertEqual(words, {"below", "open", "above"})

    def test_slopes_and_levels(self):
        # Strictly between two neighbouring levels of a smooth row its slope keeps its side: so the slope row meets
        # nought just so often.
        chance = random.Random(914)
        for time in range(20):
            heights = tuple((place, fraction(chance)) for place in rising(chance, 4))
            row = smoothest_through(3, None, heights)[1]
            slopes = slope_row(row)
            paper = meets_paper(slopes, (0, 1), 3)
            if paper != ("open",):
                at_cuts = sum(value_at(slopes, cut) == (0, 1) for cut in slopes[0])
                self.assertEqual(paper[2], sum(levels_of(row)) + at_cuts)

    def test_bends_of_turned_places(self):
        chance = random.Random(915)
        for many in (2, 4, 6):
            places, a, c = rising(chance, many), q(fraction(chance)), q(positive(chance))
            for k in range(many):
                bends = bends_dying(places, k)
                self.assertEqual(bends_dying(tuple(f(q(x) + a) for x in places), k), bends)
                self.assertEqual(bends_dying(tuple(f(-q(x)) for x in places[::-1]), many - 1 - k), bends[::-1])
                due = [f(q(bend) / c ** 2) for bend in bends]
                self.assertEqual(bends_dying(tuple(f(q(x) * c) for x in places), k), due)

    def test_heads_of_turned_rows(self):
        chance = random.Random(916)
        for time in range(6):
            row = smoothest_through(3, None, tuple((place, fraction(chance)) for place in rising(chance, 4)))[1]
            heads = heads_of(row)
            self.assertEqual(heads_of(moved_row(row, fraction(chance))), heads)
            self.assertEqual(heads_of(stretched_row(row, q(positive(chance)))), heads)
            self.assertEqual(heads_of(mirrored_row(row)), tuple(four[::-1] for four in heads[::-1]))

    def test_keepers_hold_what_tasks_tell(self):
        chance = random.Random(917)
        for sort in (1, 3):
            keeper = Keeper(sort)
            for place in rising(chance, 5):
                keeper.put(place, fraction(chance))
            row = keeper.row_now()
            parts = [row_scaled(keeper.share_now(place), value) for place, value in keeper.points_now()]
            total = parts[0]
            for part in parts[1:]:
                total = row_sum(total, part)
            self.assertEqual(total, row)
            # A point taken out of a smoothest row: it bends no more than it did.
            place = keeper.points_now()[2][0]
            keeper.out(place)
            less = keeper.row_now()
            self.assertLessEqual(q(bending_of(sort, less)), q(bending_of(sort, row)))
            self.assertTrue(are_one(row_sum(row, keeper.turned_from(row)), less))
            keeper.back()
            self.assertEqual(keeper.row_now(), row)


class Sheets(Asking, unittest.TestCase):

    def test_rows_of_rows(self):
        for sort, xs, ys, values in all_values(920, (1, 2)):
            sheet = sheet_through(sort, xs, ys, values)
            for x in between(xs, 2):
                for y in between(ys, 2):
                    along_x = smoothest_through(sort, None, tuple((a, height_at(sheet, a, f(y))) for a in xs))[1]
                    along_y = smoothest_through(sort, None, tuple((b, height_at(sheet, f(x), b)) for b in ys))[1]
                    height = height_at(sheet, f(x), f(y))
                    self.assertEqual((value_at(along_x, f(x)), value_at(along_y, f(y))), (height, height))

    def test_a_moved_value_turns_the_sheet_by_its_unit_sheet(self):
        chance = random.Random(921)
        for sort, xs, ys, values in all_values(922, (2,)):
            i, j = chance.randrange(len(xs)), chance.randrange(len(ys))
            by = fraction(chance)
            column = list(values[i])
            column[j] = f(q(column[j]) + q(by))
            other = (*values[:i], tuple(column), *values[i + 1:])
            one, two, unit = sheet_through(sort, xs, ys, values), sheet_through(sort, xs, ys, other), unit_sheet(sort, xs, ys, i, j)
            for x, y in places_on(one, 2):
                self.assertEqual(own_height(two, x, y), own_height(one, x, y) + q(by) * own_height(unit, x, y))
            self.assertEqual(q(under_sheet(two)), q(under_sheet(one)) + q(by) * q(under_sheet(unit)))

    def test_rows_of_sheets_are_rows(self):
        for sort, xs, ys, values in all_values(923, (30,)):
            sheet = sheet_through(sort, xs, ys, values)
            for row in (row_at_x(sheet, xs[0]), row_at_y(sheet, ys[-1])):
                self.assertEqual(row, smoothest_through(sort, None, tuple((cut, value_at(row, cut)) for cut in row[0]))[1])
                self.assertEqual(len(heads_of(row)), len(row[1]))


class Asked(Asking, unittest.TestCase):

    def test_nothing_hangs_on_what_was_asked_before(self):
        chance = random.Random(930)
        heights = tuple((place, fraction(chance)) for place in rising(chance, 4))
        row = smoothest_through(3, None, heights)[1]
        some = next(iter(bounded_tasks(931, 1, (4,), 2)))
        shaped = ("rising", (1, 1), tuple((place, value, (1, 1)) for place, value in heights))
        questions = [
            (least_paper_of, some), (smoothest_through, 3, None, heights), (shaped_paper_of, shaped), (heads_of, row),
            (highest_of, row, 3), (below_paper, row, (1, 2), 4), (meets_paper, row, (1, 2), 3), (levels_of, row), (slope_row, row),
            (bends_dying, row[0], 1), (sheet_through, 1, row[0], row[0], (row[0],) * 4),
            (unit_sheet, 3, row[0][:3], row[0][:3], 1, 1),
        ]
        first = [ask(*things) for ask, *things in questions]
        for time in range(3):
            order = chance.sample(range(len(questions)), len(questions))
            for k in order:
                ask, *things = questions[k]
                self.assertTrue(same(ask(*things), first[k]), ask.__name__)
        self.assertTrue(lets_shaped(shaped, first[2]))

    def test_told_things_may_be_handed_in_again(self):
        # What was told may be much greater than what is handed in else.
        chance = random.Random(932)
        heights = tuple((place, fraction(chance, 30)) for place in rising(chance, 4, 30))
        row = smoothest_through(3, None, heights)[1]
        places = [f(x) for x in spread(row[0][0], row[0][-1], 4)]
        again = smoothest_through(3, None, tuple((x, value_at(row, x)) for x in places))[1]
        self.assertEqual(again[0], tuple(places))
        low, high = highest_of(again, 4)
        self.assertTrue(lets_below(again, high, below_paper(again, high, 4)))
        self.assertEqual(below_paper(again, f(q(low) - Fraction(1, 10 ** 40)), 4)[0], "above")
        keeper = Keeper(3)
        for x in places:
            keeper.put(x, value_at(row, x))
        self.tells(again, keeper.row_now)


if __name__ == "__main__":
    unittest.main()
