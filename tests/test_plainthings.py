"""Any plain thing: what is asked of things by chance, against a second telling of what the document says of them."""

import math
import random
import unittest

from gentlebends.asking import ask_task
from gentlebends.crossing import sheet_crossed, sheet_through
from gentlebends.errors import NoKnots, NoPaper, NoSheet, NoTask
from gentlebends.fractions import is_fraction
from gentlebends.knots import ask_knots
from gentlebends.leastchecker import lets_least
from gentlebends.meetchecker import lets_meets
from gentlebends.polys import is_poly
from gentlebends.rows import is_row
from gentlebends.settling import settled_by
from gentlebends.shapechecker import lets_shaped
from gentlebends.shaping import ask_shaped
from gentlebends.shares import row_of_shares
from gentlebends.sheeting import is_sheet
from gentlebends.topchecker import lets_below
from gentlebends.turnchecker import lets_turns
from helpers import (
    ODD_THINGS, Asking, f, fraction, paths_in, poly_value, q, replaced, rising, row, row_value, spread, task, thing_at,
    trimmed,
)
from knothelpers import own_fault as own_knots_fault, own_stretch, own_value, places_in, some_knots, some_shares
from rowhelpers import times_met, with_own_cuts
from shapehelpers import own_papers
from sheethelpers import is_own_joined, some_sheet, some_values
from test_heading import all_own_heads
from test_meeting import unclear
from test_shaping import SHAPES, shaped
from test_sides import own_turns


def number(thing):
    return type(thing) is int


def own_fraction(thing):
    if type(thing) is not tuple or len(thing) != 2:
        return False
    return number(thing[0]) and number(thing[1]) and thing[1] >= 1 and math.gcd(*thing) == 1


def own_poly(thing):
    if type(thing) is not tuple or not all(own_fraction(one) for one in thing):
        return False
    return len(thing) <= 4 and trimmed([q(one) for one in thing]) == thing


def own_row(thing):
    if type(thing) is not tuple or len(thing) != 2:
        return False
    cuts, pieces = thing
    if type(cuts) is not tuple or type(pieces) is not tuple or len(cuts) < 2 or len(pieces) != len(cuts) - 1:
        return False
    if not all(own_fraction(cut) for cut in cuts) or not all(own_poly(piece) for piece in pieces):
        return False
    places = [q(cut) for cut in cuts]
    if sorted(set(places)) != places:
        return False
    ends = [poly_value(pieces[k], places[k + 1] - places[k]) for k in range(len(pieces))]
    return all(ends[k] == poly_value(pieces[k + 1], 0) for k in range(len(pieces) - 1))


def own_wish(thing, words):
    if type(thing) is not tuple or not thing or type(thing[0]) is not str or thing[0] not in words:
        return False
    many = {"free": 0, "near": 2}.get(thing[0], 1)
    if len(thing) != many + 1 or not all(own_fraction(one) for one in thing[1:]):
        return False
    return thing[0] != "near" or thing[2][0] > 0


def own_point(sort, thing):
    if type(thing) is not tuple or len(thing) != 3 or not own_fraction(thing[0]):
        return False
    slopes = ("held", "least", "most", "free") if sort == 3 else ("free",)
    return own_wish(thing[1], ("held", "near", "least", "most", "free")) and own_wish(thing[2], slopes)


def own_fault(thing):
    """None or the pair of [25]."""
    if type(thing) is not tuple or len(thing) != 4:
        return ("shape", -1)
    sort, turn, price, points = thing
    kinds = number(sort) and sort in (1, 3) and (turn is None or own_fraction(turn)) and own_fraction(price)
    if not kinds or price[0] <= 0 or type(points) is not tuple or not 2 <= len(points) <= 6:
        return ("shape", -1)
    for k, point in enumerate(points):
        if not own_point(sort, point):
            return ("point", k)
    places = [q(point[0]) for point in points]
    for k in range(1, len(places)):
        if places[k] <= places[k - 1]:
            return ("places", k)
    if turn is not None and q(turn) <= places[-1] - places[0]:
        return ("round", -1)
    told = sum(point[1][0] in ("held", "near") for point in points)
    sloped = any(point[2][0] == "held" for point in points)
    due = 2 if sort == 3 and turn is None and not sloped else 1
    return ("loose", -1) if told < due else None


def own_shaped_fault(thing):
    """None or the pair of [47]."""
    if type(thing) is not tuple or len(thing) != 3:
        return ("shape", -1)
    shape, price, points = thing
    if type(shape) is not str or shape not in SHAPES or not own_fraction(price) or price[0] <= 0:
        return ("shape", -1)
    if type(points) is not tuple or not 2 <= len(points) <= 6:
        return ("shape", -1)
    for k, point in enumerate(points):
        kinds = type(point) is tuple and len(point) == 3 and all(own_fraction(one) for one in point)
        if not kinds or point[2][0] <= 0:
            return ("point", k)
    places = [q(point[0]) for point in points]
    for k in range(1, len(places)):
        if places[k] <= places[k - 1]:
            return ("places", k)
    return None


def odd_thing(chance, depth=3):
    """A plain thing by chance."""
    kind = chance.randrange(8)
    if kind < 2 or depth == 0:
        return chance.choice(ODD_THINGS)
    if kind == 2:
        return fraction(chance)
    if kind == 3:
        return chance.choice((("held", fraction(chance)), ("near", fraction(chance), fraction(chance)), ("free",),
                              ("least", fraction(chance)), ("most", fraction(chance))))
    if kind == 4:
        return chance.randint(-3, 3)
    if kind == 5:
        return {chance.choice(("a", 0, 1, (1, 1), None)): odd_thing(chance, depth - 1)}
    parts = [odd_thing(chance, depth - 1) for k in range(chance.randint(0, 4))]
    return tuple(parts) if kind == 6 else parts


def changed(chance, thing):
    """A thing with one thing within it exchanged: by chance, or by one that stands elsewhere in it."""
    paths = list(paths_in(thing))
    path = chance.choice(paths)
    kind = chance.randrange(4)
    if kind == 0:
        return replaced(thing, path, odd_thing(chance))
    if kind == 1:
        return replaced(thing, path, thing_at(thing, chance.choice(paths)))
    numbers = [path for path in paths if number(thing_at(thing, path))]
    path = chance.choice(numbers) if numbers else path
    return replaced(thing, path, chance.choice((0, 1, 2, -1, 3, True, False)))


def with_fewer_told(chance, thing):
    """A thing with bounds in the place of held and near wishes, here and there."""
    for path in list(paths_in(thing)):
        if len(path) == 3 and chance.random() < 0.6:
            here = thing_at(thing, path)
            if path[2] > 0 and type(here) is tuple and here and here[0] in ("held", "near"):
                thing = replaced(thing, path, (chance.choice(("least", "most")), here[1] if len(here) > 1 else None))
    return thing


class PlainThings(Asking, unittest.TestCase):

    def test_fractions_polys_rows(self):
        chance = random.Random(140)
        lets = 0
        for time in range(3000):
            thing = odd_thing(chance) if time % 3 == 0 else changed(chance, row(chance, chance.randint(1, 3), 0, 1))
            for part in (thing, *(thing if type(thing) in (tuple, list) else ())):
                self.tells(own_fraction(part), is_fraction, part)
                self.tells(own_poly(part), is_poly, part)
                self.tells(own_row(part), is_row, part)
                lets += own_row(part)
        self.assertGreater(lets, 100)

    def test_tasks(self):
        chance = random.Random(141)
        words = set()
        for time in range(4000):
            thing = task(chance, chance.choice((1, 3)), chance.random() < 0.5, chance.randint(2, 4), 1)
            for step in range(chance.randint(0, 3)):
                thing = changed(chance, thing)
            if time % 5 == 0:
                thing = with_fewer_told(chance, thing)
            due = own_fault(thing)
            words.add(due and due[0])
            if due is None:
                self.tells(True, ask_task, thing)
            else:
                self.refuses(NoTask, {"word": due[0], "number": due[1]}, ask_task, thing)
        self.assertEqual(words, {None, "shape", "point", "places", "round", "loose"})

    def test_papers(self):
        chance = random.Random(142)
        for time in range(1500):
            sort, turn = chance.choice((1, 3)), chance.random() < 0.5
            some = task(chance, sort, turn, chance.randint(2, 3), 1, ("held", "near", "free"))
            paper = settled_by(some, ())
            thing = changed(chance, paper)
            if self.is_own_shape(some, thing) and thing == paper:
                self.tells(True, lets_least, some, thing)
                continue
            with self.assertRaises(NoPaper) as caught:
                lets_least(some, thing)
            told = (caught.exception.word, caught.exception.number)
            self.assertEqual(told == ("shape", -1), not self.is_own_shape(some, thing))

    def is_own_shape(self, some, thing):
        if type(thing) is not tuple or len(thing) != 3 or type(thing[0]) is not str or thing[0] != "least":
            return False
        prices = thing[2]
        if not own_row(thing[1]) or type(prices) is not tuple or len(prices) != len(some[3]):
            return False
        return all(type(pair) is tuple and len(pair) == 2 and all(own_fraction(one) for one in pair) for pair in prices)

    def test_knots(self):
        chance = random.Random(145)
        words = set()
        for time in range(3000):
            degree = chance.choice((1, 2, 3))
            thing = some_knots(chance, degree)
            for step in range(chance.randint(0, 2)):
                thing = changed(chance, thing)
            is_long = type(thing) is tuple and len(thing) >= 2 * degree + 2
            if is_long and all(own_fraction(one) for one in thing):
                due = own_knots_fault(degree, thing)
            else:
                due = ("shape", -1)
            words.add(due and due[0])
            if due is None:
                self.tells(True, ask_knots, degree, thing)
            else:
                self.refuses(NoKnots, {"word": due[0], "number": due[1]}, ask_knots, degree, thing)
        self.assertEqual(words, {None, "shape", "falls", "ends", "often"})

    def test_turns_papers(self):
        chance = random.Random(146)
        words = set()
        for time in range(2500):
            degree = chance.choice((1, 2, 3))
            knots = some_knots(chance, degree, 2 * degree + chance.randint(2, 4))
            paper = ("turns", knots, some_shares(chance, degree, knots, 1))
            row_of = row_of_shares(degree, *paper[1:])
            thing = changed(chance, paper)
            many = chance.randint(0, 3)
            due = self.own_turns_word(degree, row_of, many, thing)
            words.add(due)
            if due is None:
                self.tells(True, lets_turns, degree, row_of, many, thing)
            else:
                self.refuses(NoPaper, {"word": due, "number": -1}, lets_turns, degree, row_of, many, thing)
        self.assertEqual(words, {None, "shape", "row", "turns"})

    def own_turns_word(self, degree, some, many, thing):
        """None or the word of [59]."""
        if type(thing) is not tuple or len(thing) != 3 or type(thing[0]) is not str or thing[0] != "turns":
            return "shape"
        word, knots, shares = thing
        for part in (knots, shares):
            if type(part) is not tuple or not all(own_fraction(one) for one in part):
                return "shape"
        is_short = len(knots) < 2 * degree + 2 or len(shares) != len(knots) - 1 - degree
        if is_short or own_knots_fault(degree, knots) is not None:
            return "shape"
        if own_stretch(degree, knots) != (q(some[0][0]), q(some[0][-1])):
            return "row"
        places = sorted({*places_in(degree, knots), *[x for cut in zip(some[0], some[0][1:]) for x in spread(*cut, 5)]})
        if any(row_value(some, x) != own_value(degree, knots, shares, x) for x in places):
            return "row"
        return "turns" if own_turns([q(share) for share in shares]) > many else None

    def paper_cuts_are_right(self, some, thing):
        """Whether a thing is a tuple of FRACTIONs, rising, between a ROW's ends."""
        if type(thing) is not tuple or not all(own_fraction(one) for one in thing):
            return False
        places = [q(one) for one in (some[0][0], *thing, some[0][-1])]
        return sorted(set(places)) == places

    def some_cuts(self, chance, some):
        """A few rising FRACTIONs between a ROW's ends."""
        return tuple(f(x) for x in sorted(chance.sample(spread(some[0][0], some[0][-1], 12)[1:-1], chance.randint(0, 3))))

    def test_papers_of_nowhere_above(self):
        chance = random.Random(147)
        words = set()
        for time in range(1500):
            some = row(chance, chance.randint(1, 3), 0, 1)
            cuts = self.some_cuts(chance, some)
            paper = ("above", chance.choice(some[0])) if time % 3 == 0 else ("below", cuts)
            thing = changed(chance, paper) if chance.random() < 0.7 else paper
            heads = [head for four in all_own_heads(some) for head in four]
            bound = chance.choice(heads)
            due = self.own_below_fault(some, bound, thing)
            words.add(due and due[0])
            if due is None:
                self.tells(True, lets_below, some, f(bound), thing)
            else:
                self.refuses(NoPaper, {"word": due[0], "number": due[1]}, lets_below, some, f(bound), thing)
        self.assertEqual(words, {None, "shape", "piece", "place"})

    def own_below_fault(self, some, bound, thing):
        """None or the pair of [72]."""
        if type(thing) is not tuple or len(thing) != 2 or type(thing[0]) is not str or thing[0] not in ("below", "above"):
            return ("shape", -1)
        word, told = thing
        if word == "above":
            if not own_fraction(told) or not q(some[0][0]) <= q(told) <= q(some[0][-1]):
                return ("shape", -1)
            return None if row_value(some, q(told)) > bound else ("place", -1)
        if not self.paper_cuts_are_right(some, told):
            return ("shape", -1)
        above = [k for k, four in enumerate(all_own_heads(with_own_cuts(some, told))) if max(four) > bound]
        return ("piece", above[0]) if above else None

    def test_papers_of_heights_met(self):
        chance = random.Random(148)
        words = set()
        for time in range(1500):
            some = row(chance, chance.randint(1, 3), 0, 1)
            height = chance.choice([head for four in all_own_heads(some) for head in four])
            paper = ("meets", self.some_cuts(chance, some), times_met(some, height) or 0)
            thing = changed(chance, paper) if chance.random() < 0.7 else paper
            due = self.own_meets_fault(some, height, thing)
            words.add(due and due[0])
            if due is None:
                self.tells(True, lets_meets, some, f(height), thing)
            else:
                self.refuses(NoPaper, {"word": due[0], "number": due[1]}, lets_meets, some, f(height), thing)
        self.assertEqual(words, {None, "shape", "piece", "many"})

    def own_meets_fault(self, some, height, thing):
        """None or the pair of [74]."""
        if type(thing) is not tuple or len(thing) != 3 or type(thing[0]) is not str or thing[0] != "meets":
            return ("shape", -1)
        word, cuts, many = thing
        if not self.paper_cuts_are_right(some, cuts) or not number(many) or many < 0:
            return ("shape", -1)
        wrong = unclear(with_own_cuts(some, cuts), height)
        if wrong:
            return ("piece", wrong[0])
        due = times_met(some, height)
        return None if many == due else ("many", due)

    def test_sheets(self):
        chance = random.Random(149)
        seen = {True: 0, False: 0}
        for time in range(1000):
            thing = some_sheet(chance, chance.randint(2, 3), chance.randint(2, 3), 1)
            for step in range(chance.randint(0, 2)):
                thing = changed(chance, thing)
            due = self.is_own_sheet(thing)
            seen[due] += 1
            self.tells(due, is_sheet, thing)
        self.assertGreater(min(seen.values()), 250)

    def is_own_sheet(self, thing):
        if type(thing) is not tuple or len(thing) != 3:
            return False
        for cuts in thing[:2]:
            if type(cuts) is not tuple or len(cuts) < 2 or not all(own_fraction(cut) for cut in cuts):
                return False
            if sorted({q(cut) for cut in cuts}) != [q(cut) for cut in cuts]:
                return False
        xcuts, ycuts, patches = thing
        if type(patches) is not tuple or len(patches) != len(xcuts) - 1:
            return False
        for column in patches:
            if type(column) is not tuple or len(column) != len(ycuts) - 1:
                return False
            for patch in column:
                if type(patch) is not tuple or len(patch) > 4 or not all(own_poly(one) for one in patch):
                    return False
                if patch and patch[-1] == ():
                    return False
        return is_own_joined(thing)

    def test_values_of_sheets(self):
        chance = random.Random(150)
        words = set()
        for time in range(1000):
            xs, ys = rising(chance, chance.randint(2, 3), 1), rising(chance, chance.randint(2, 3), 1)
            thing = (chance.choice((1, 3)), xs, ys, some_values(chance, xs, ys, 1))
            for step in range(chance.randint(0, 2)):
                thing = changed(chance, thing)
            if type(thing) is not tuple or len(thing) != 4:
                continue
            due = self.own_values_fault(*thing)
            words.add(due and due[0])
            for ask in (sheet_through, sheet_crossed):
                if due is None:
                    self.assertTrue(self.is_own_sheet(ask(*thing)))
                else:
                    self.refuses(NoSheet, {"word": due[0], "number": due[1]}, ask, *thing)
        self.assertEqual(words, {None, "sort", "x", "y", "values"})

    def own_values_fault(self, sort, xs, ys, values):
        """None or the pair of [79]."""
        if not number(sort) or sort not in (1, 3):
            return ("sort", -1)
        for word, some in (("x", xs), ("y", ys)):
            if type(some) is not tuple or not 2 <= len(some) <= 4 or not all(own_fraction(one) for one in some):
                return (word, -1)
            for k in range(1, len(some)):
                if q(some[k]) <= q(some[k - 1]):
                    return (word, k)
        if type(values) is not tuple or len(values) != len(xs):
            return ("values", -1)
        for i, some in enumerate(values):
            if type(some) is not tuple or len(some) != len(ys) or not all(own_fraction(one) for one in some):
                return ("values", i)
        return None

    def test_shapeds(self):
        chance = random.Random(143)
        words = set()
        for time in range(3000):
            thing = shaped(chance, chance.choice(SHAPES), chance.randint(2, 4), 1)
            for step in range(chance.randint(0, 3)):
                thing = changed(chance, thing)
            due = own_shaped_fault(thing)
            words.add(due and due[0])
            if due is None:
                self.tells(True, ask_shaped, thing)
            else:
                self.refuses(NoTask, {"word": due[0], "number": due[1]}, ask_shaped, thing)
        self.assertEqual(words, {None, "shape", "point", "places"})

    def test_shaped_papers(self):
        chance = random.Random(144)
        words = set()
        for time in range(1200):
            some = shaped(chance, chance.choice(SHAPES), chance.randint(2, 3), 1)
            paper = own_papers(some)[0]
            thing = changed(chance, paper)
            if self.has_own_kinds(some, thing) and thing == paper:
                self.tells(True, lets_shaped, some, thing)
                continue
            with self.assertRaises(NoPaper) as caught:
                lets_shaped(some, thing)
            words.add(caught.exception.word)
            told = (caught.exception.word, caught.exception.number)
            self.assertEqual(told == ("shape", -1), not self.has_own_kinds(some, thing))
        self.assertEqual(words, {"shape", "cuts", "kept", "bind", "pull"})

    def has_own_kinds(self, some, thing):
        if type(thing) is not tuple or len(thing) != 3 or type(thing[0]) is not str or thing[0] != "shaped":
            return False
        due = len(some[2]) - (1 if some[0] in ("rising", "falling") else 2)
        binds = thing[2]
        if not own_row(thing[1]) or type(binds) is not tuple or len(binds) != due:
            return False
        return all(own_fraction(bind) for bind in binds)


if __name__ == "__main__":
    unittest.main()
