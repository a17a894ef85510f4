"""SHEETs by chance, and their heights by the words of [77], with Python's own arithmetic."""

import itertools
import random
from fractions import Fraction

from helpers import f, fraction, q, rising, row_over, trimmed


def trimmed_patch(square):
    """The PATCH of numbers by powers of y, in them by powers of x."""
    polys = [trimmed(line) for line in square]
    while polys and polys[-1] == ():
        polys.pop()
    return tuple(polys)


def own_number(poly, power):
    return q(poly[power]) if power < len(poly) else Fraction(0)


def sheet_of_products(pairs):
    """The SHEET of the products of pairs of ROWs, one over x and one over y, all added; all have the same cuts."""
    xcuts, ycuts = pairs[0][0][0], pairs[0][1][0]
    patches = []
    for i in range(len(xcuts) - 1):
        column = []
        for j in range(len(ycuts) - 1):
            square = [[sum(own_number(one[1][i], a) * own_number(other[1][j], b) for one, other in pairs) for a in range(4)]
                      for b in range(4)]
            column.append(trimmed_patch(square))
        patches.append(tuple(column))
    return (xcuts, ycuts, tuple(patches))


def some_sheet(chance, xmany=None, ymany=None, figures=2):
    """A SHEET with so many xcuts and ycuts."""
    xcuts = rising(chance, chance.randint(2, 4) if xmany is None else xmany, figures)
    ycuts = rising(chance, chance.randint(2, 4) if ymany is None else ymany, figures)
    pairs = [(row_over(chance, xcuts, 0, figures), row_over(chance, ycuts, 0, figures)) for k in range(chance.randint(1, 3))]
    return sheet_of_products(pairs)


def all_sheets(seed, sizes=(1, 2, 15), counts=(2, 3, 4)):
    """Sheets of two to four cuts each way: the numbers of a product have twice as many figures as its rows'."""
    chance = random.Random(seed)
    for figures in sizes:
        for xmany, ymany in itertools.product(counts, counts):
            yield some_sheet(chance, xmany, ymany, figures)


def patch_height(patch, s, t):
    """The height of a PATCH, s behind its first xcut and t behind its first ycut."""
    return sum((q(c) * s ** a * t ** b for b, poly in enumerate(patch) for a, c in enumerate(poly)), Fraction(0))


def own_height(sheet, x, y):
    """The height at Python's own numbers x and y, told alike by all patches that have this place."""
    xcuts, ycuts, patches = sheet
    found = set()
    for i in range(len(xcuts) - 1):
        for j in range(len(ycuts) - 1):
            if q(xcuts[i]) <= x <= q(xcuts[i + 1]) and q(ycuts[j]) <= y <= q(ycuts[j + 1]):
                found.add(patch_height(patches[i][j], x - q(xcuts[i]), y - q(ycuts[j])))
    if len(found) != 1:
        raise AssertionError("outside, or not joined")
    return found.pop()


def between(cuts, parts=3):
    """All cuts, and places between them, Python's own numbers."""
    places = [q(cuts[-1])]
    for low, high in zip(cuts, cuts[1:]):
        places += [q(low) + (q(high) - q(low)) * Fraction(k, parts) for k in range(parts)]
    return sorted(places)


def places_on(sheet, parts=3):
    """Places of a SHEET: corners, borders and within."""
    return itertools.product(between(sheet[0], parts), between(sheet[1], parts))


def some_values(chance, xs, ys, figures=2):
    return tuple(tuple(fraction(chance, figures) for y in ys) for x in xs)


def all_values(seed, sizes=(1, 2, 30)):
    """A sort, xs, ys and VALUES over them: of sort 1 two to four places, of sort 3 two or three, with few figures four."""
    chance = random.Random(seed)
    for figures in sizes:
        for sort in (1, 3):
            counts = (2, 3, 4) if sort == 1 or figures < 3 else (2, 3)
            for xmany, ymany in itertools.product(counts, counts):
                xs, ys = rising(chance, xmany, figures), rising(chance, ymany, figures)
                yield sort, xs, ys, some_values(chance, xs, ys, figures)


def is_own_joined(thing):
    """Whether patches, kinds being right, have one height at each border, looked at in four places of it."""
    xcuts, ycuts, patches = thing
    xs, ys = [q(x) for x in xcuts], [q(y) for y in ycuts]
    quarters = [Fraction(k, 3) for k in range(4)]
    for i in range(len(xs) - 1):
        for j in range(len(ys) - 1):
            wide, long = xs[i + 1] - xs[i], ys[j + 1] - ys[j]
            for part in quarters:
                if i + 2 < len(xs):
                    ahead, behind = patch_height(patches[i][j], wide, part * long), patch_height(patches[i + 1][j], 0, part * long)
                    if ahead != behind:
                        return False
                if j + 2 < len(ys):
                    ahead, behind = patch_height(patches[i][j], part * wide, long), patch_height(patches[i][j + 1], part * wide, 0)
                    if ahead != behind:
                        return False
    return True


def level_sheet(xs, ys, height):
    """The SHEET of one height everywhere."""
    patch = ((f(height),),) if height else ()
    return (xs, ys, ((patch,) * (len(ys) - 1),) * (len(xs) - 1))
