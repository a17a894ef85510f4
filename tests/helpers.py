"""What the tests share: a strict look at what is told, things made by chance from a seed, and an own arithmetic."""

import copy
import itertools
import random
from fractions import Fraction

FREE = ("free",)


def f(n, d=1):
    """The FRACTION of n over d, told by Python's own arithmetic."""
    q = Fraction(n, d)
    return (q.numerator, q.denominator)


def q(one):
    """Python's own number of a FRACTION."""
    return Fraction(one[0], one[1])


def fs(*numbers):
    """A tuple of FRACTIONs."""
    return tuple(f(number) for number in numbers)


def same(one, other):
    """Whether two plain things are alike, kinds and all, within too."""
    if type(one) is not type(other):
        return False
    if isinstance(one, (list, tuple)):
        return len(one) == len(other) and all(same(a, b) for a, b in zip(one, other))
    if isinstance(one, dict):
        return same(list(one.items()), list(other.items()))
    return one == other


class Asking:
    """Mixed into test cases: each question is asked twice, and what was handed in must stay."""

    def told(self, ask, *things):
        ahead = copy.deepcopy(things)
        first = ask(*things)
        second = ask(*things)
        self.assertTrue(same(first, second), "asked twice, unlike things are told")
        self.assertTrue(same(ahead, things), "what was handed in was changed")
        return first

    def tells(self, due, ask, *things):
        told = self.told(ask, *things)
        self.assertTrue(same(told, due), f"{ask.__name__} told {told!r}, due is {due!r}")

    def refuses(self, kind, fields, ask, *things):
        ahead = copy.deepcopy(things)
        for time in range(2):
            with self.assertRaises(kind) as caught:
                ask(*things)
            self.assertIs(type(caught.exception), kind)
            kept = {name: getattr(caught.exception, name) for name in fields}
            self.assertTrue(same(kept, fields), f"{ask.__name__} refused with {kept!r}, due is {fields!r}")
        self.assertTrue(same(ahead, things), "what was handed in was changed")


def whole(chance, figures):
    """A whole number of either sign with up to so many figures."""
    size = 10 ** chance.randint(1, figures)
    return chance.randrange(1 - size, size)


def fraction(chance, figures=2):
    return f(whole(chance, figures), abs(whole(chance, figures)) + 1)


def positive(chance, figures=2):
    return f(abs(whole(chance, figures)) + 1, abs(whole(chance, figures)) + 1)


def rising(chance, many, figures=2):
    """A tuple of so many FRACTIONs, rising."""
    found = {}
    while len(found) < many:
        one = fraction(chance, figures)
        found[q(one)] = one
    return tuple(found[key] for key in sorted(found))


def poly(chance, figures=2, many=None):
    numbers = [fraction(chance, figures) for k in range(chance.randint(0, 4) if many is None else many)]
    while numbers and numbers[-1] == (0, 1):
        numbers.pop()
    return tuple(numbers)


def trimmed(numbers):
    """The POLY of a list of Python's own numbers."""
    numbers = list(numbers)
    while numbers and numbers[-1] == 0:
        numbers.pop()
    return tuple(f(number) for number in numbers)


def poly_value(numbers, t):
    """The value of a POLY at t, both Python's own numbers but for the POLY."""
    return sum((q(c) * t ** k for k, c in enumerate(numbers)), Fraction(0))


def poly_bends(numbers, t):
    """The four BENDS of a POLY at t as Python's own numbers."""
    own = [q(c) for c in numbers] + [Fraction(0)] * (4 - len(numbers))
    return (
        own[0] + own[1] * t + own[2] * t ** 2 + own[3] * t ** 3,
        own[1] + 2 * own[2] * t + 3 * own[3] * t ** 2,
        2 * own[2] + 6 * own[3] * t,
        6 * own[3],
    )


def row_over(chance, cuts, smooth=0, figures=2):
    """A ROW over these cuts that is smooth of at least so much at each inner one."""
    pieces = []
    for k in range(len(cuts) - 1):
        numbers = [q(fraction(chance, figures)) for power in range(4)]
        if chance.random() < 0.3:
            numbers[chance.randint(1, 3):] = []
        if pieces:
            bends = poly_bends(pieces[-1], q(cuts[k]) - q(cuts[k - 1]))
            factors = (1, 1, Fraction(1, 2), Fraction(1, 6))
            for power in range(smooth + 1):
                numbers[power:power + 1] = [bends[power] * factors[power]]
        pieces.append(trimmed(numbers))
    return (tuple(cuts), tuple(pieces))


def row(chance, pieces=None, smooth=0, figures=2):
    many = chance.randint(1, 5) if pieces is None else pieces
    return row_over(chance, rising(chance, many + 1, figures), smooth, figures)


def row_value(some, x):
    """The value of a ROW at Python's own number x."""
    cuts, pieces = some
    for k in range(len(pieces)):
        if q(cuts[k]) <= x <= q(cuts[k + 1]):
            return poly_value(pieces[k], x - q(cuts[k]))
    raise AssertionError("outside")


def spread(low, high, many=7):
    """Places from low to high, both with them, as Python's own numbers."""
    low, high = q(low), q(high)
    return [low + (high - low) * k / (many - 1) for k in range(many)]


def hermite_row(places, values, slopes):
    """The ROW through values and slopes, Python's own numbers, at the places, FRACTIONs."""
    pieces = []
    for k in range(len(places) - 1):
        d = q(places[k + 1]) - q(places[k])
        u, v, s, t = values[k], values[k + 1], slopes[k], slopes[k + 1]
        pieces.append(trimmed([u, s, (3 * (v - u) / d - 2 * s - t) / d, (s + t - 2 * (v - u) / d) / d ** 2]))
    return (tuple(places), tuple(pieces))


def value_wish(chance, words, figures):
    word = chance.choice(words)
    if word == "free":
        return FREE
    if word == "near":
        return ("near", fraction(chance, figures), positive(chance, figures))
    return (word, fraction(chance, figures))


def task(chance, sort, turn, many, figures=2, words=("held", "near", "least", "most", "free")):
    """A right TASK of a sort, with a round or without one."""
    places = rising(chance, many, figures)
    length = f(q(places[-1]) - q(places[0]) + q(positive(chance, figures))) if turn else None
    points = []
    for place in places:
        wish = value_wish(chance, words, figures)
        slope = FREE
        if sort == 3:
            slope = value_wish(chance, [word for word in words if word != "near"] or ["free"], figures)
        points.append([place, wish, slope])
    for k in chance.sample(range(many), 2):
        if points[k][1][0] not in ("held", "near"):
            points[k][1] = value_wish(chance, [word for word in words if word in ("held", "near")], figures)
    return (sort, length, positive(chance, figures), tuple(tuple(point) for point in points))


def all_tasks(seed, times=1, counts=(2, 3, 4, 6), figures=2, words=("held", "near", "least", "most", "free")):
    """Right TASKs of both sorts, with a round and without one."""
    chance = random.Random(seed)
    for sort, turn, many, time in itertools.product((1, 3), (False, True), counts, range(times)):
        yield task(chance, sort, turn, many, figures, words)


def own_places(some):
    """The PLACES of a TASK, by Python's own arithmetic."""
    places = [point[0] for point in some[3]]
    if some[1] is not None:
        places.append(f(q(places[0]) + q(some[1])))
    return tuple(places)


def bound_words(some):
    """The words of a TASK's BOUNDS in order."""
    return [wish[0] for point in some[3] for wish in point[1:] if wish[0] in ("least", "most")]


def subsets(many):
    """All rising tuples of numbers below many."""
    for size in range(many + 1):
        yield from itertools.combinations(range(many), size)


def lucas_pair(figures):
    """Two neighbours, no number above 1 dividing both, of which the common divisor takes very many steps."""
    a, b = 1, 2
    while b < 10 ** (figures - 1):
        a, b = b, a + b
    return a, b


ODD_THINGS = (
    None, True, False, 0, 1, 3, -1, 10 ** 3999, "", "free", "held", "least", [], (), {}, [1], (1,), {"a": 1},
    (1, 1), [1, 1], (True, 1), (1, True), (0, 2), (2, 4), (1, 0), (1, -1), (1, 1, 1), ("1", "1"), (None, None),
    ((1, 1),), [(1, 1)], ((1, 1), (1, 1)), ("free",), ["free"], ("held", (1, 1)), {0: 1, 1: 1}, {0: (0, 1)},
    (((0, 1), (1, 1)), ((),)), [((0, 1), (1, 1)), ((),)],
)


def deep_thing(depth=38):
    """A thing of lists and tuples within one another."""
    thing = (1, 1)
    for k in range(depth):
        thing = [thing] if k & 1 else (thing,)
    return thing


def replaced(thing, path, new):
    """A thing with another one in the place that a path of numbers tells."""
    if not path:
        return new
    parts = list(thing)
    parts[path[0]] = replaced(parts[path[0]], path[1:], new)
    return tuple(parts) if isinstance(thing, tuple) else parts


def paths_in(thing):
    """The paths of all things within a thing, itself with them."""
    yield ()
    if isinstance(thing, (list, tuple)):
        for k, part in enumerate(thing):
            for path in paths_in(part):
                yield (k, *path)


def thing_at(thing, path):
    for k in path:
        thing = thing[k]
    return thing


def spoiled(thing):
    """Things that are one wrong kind away from a thing of tuples, whole numbers, texts and None."""
    for path in paths_in(thing):
        here = thing_at(thing, path)
        if isinstance(here, tuple):
            yield path, replaced(thing, path, list(here))
            yield path, replaced(thing, path, (*here, (1, 1)))
            if here:
                yield path, replaced(thing, path, here[:-1])
            yield path, replaced(thing, path, dict(enumerate(here)))
        elif isinstance(here, int):
            yield path, replaced(thing, path, True)
            yield path, replaced(thing, path, str(here))
            yield path, replaced(thing, path, None)
            yield path, replaced(thing, path, [here])
        elif isinstance(here, str):
            yield path, replaced(thing, path, here + " ")
            yield path, replaced(thing, path, 1)
