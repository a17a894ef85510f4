"""SHEETs crossed of SMOOTHEST rows: along x and along y, either way first."""

from gentlebends.errors import NoSheet
from gentlebends.fractions import NOUGHT
from gentlebends.fractions import are_fractions
from gentlebends.fractions import is_below
from gentlebends.fractions import is_whole
from gentlebends.polys import number_at
from gentlebends.polys import poly_scaled
from gentlebends.polys import poly_sum
from gentlebends.sheeting import patch_of
from gentlebends.sheeting import sheet_turned
from gentlebends.smoothing import smoothest_through
from gentlebends.smoothing import unit_row


def ask_places(word, thing):
    """Nothing, or NoSheet where any plain thing is no tuple of two to four FRACTIONs, rising."""
    if not are_fractions(thing) or not 2 <= len(thing) <= 4:
        raise NoSheet(word, -1)
    for k in range(1, len(thing)):
        if not is_below(thing[k - 1], thing[k]):
            raise NoSheet(word, k)


def ask_values(xs, ys, thing):
    """Nothing, or NoSheet where any plain thing is no VALUES over xs and ys."""
    if not isinstance(thing, tuple) or len(thing) != len(xs):
        raise NoSheet("values", -1)
    for i, column in enumerate(thing):
        if not are_fractions(column) or len(column) != len(ys):
            raise NoSheet("values", i)


def ask_sheet(sort, xs, ys, values):
    """Nothing, or NoSheet where any plain things make no sheet."""
    if not is_whole(sort) or sort not in (1, 3):
        raise NoSheet("sort", -1)
    ask_places("x", xs)
    ask_places("y", ys)
    ask_values(xs, ys, values)


def turned_values(values, many):
    """VALUES with both ways exchanged, so many standing in each tuple."""
    return tuple(tuple(column[j] for column in values) for j in range(many))


def crossed_patch(polys, crosses):
    """The sum of POLYs of x, each times the POLY of y that crosses it, as a PATCH."""
    powers = []
    for power in range(4):
        total = ()
        for poly, cross in zip(polys, crosses):
            total = poly_sum(total, poly_scaled(poly, number_at(cross, power)))
        powers.append(total)
    return patch_of(powers)


def crossed_sheet(sort, xs, ys, values):
    """The SHEET THROUGH VALUES, x first."""
    along_x = [smoothest_through(sort, None, tuple(zip(xs, line)))[1] for line in turned_values(values, len(ys))]
    # A SMOOTHEST row is the sum of its values, each times the row that is 1 at its place and nought at the others.
    along_y = [unit_row(sort, ys, j) for j in range(len(ys))]
    patches = []
    for i in range(len(xs) - 1):
        polys = [row[1][i] for row in along_x]
        patches.append(tuple(crossed_patch(polys, [row[1][j] for row in along_y]) for j in range(len(ys) - 1)))
    return (xs, ys, tuple(patches))


def sheet_through(sort, xs, ys, values):
    """The SHEET THROUGH VALUES of any plain things, x first."""
    ask_sheet(sort, xs, ys, values)
    return crossed_sheet(sort, xs, ys, values)


def sheet_crossed(sort, xs, ys, values):
    """The SHEET THROUGH VALUES of any plain things, y first."""
    ask_sheet(sort, xs, ys, values)
    return sheet_turned(crossed_sheet(sort, ys, xs, turned_values(values, len(ys))))


def unit_sheet(sort, xs, ys, i, j):
    """The UNIT SHEET: that THROUGH 1 at number i of xs and number j of ys, and nought elsewhere."""
    values = []
    for k in range(len(xs)):
        values.append(tuple((1, 1) if (k, at) == (i, j) else NOUGHT for at in range(len(ys))))
    return sheet_through(sort, xs, ys, tuple(values))
