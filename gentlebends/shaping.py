"""SHAPEDs: whether a thing is a right one, whether a ROW has a shape, and what a ROW costs by it."""

from gentlebends.bending import bending_of
from gentlebends.errors import NoTask
from gentlebends.fractions import NOUGHT
from gentlebends.fractions import is_above_nought
from gentlebends.fractions import is_below
from gentlebends.fractions import is_fraction
from gentlebends.fractions import minus_by
from gentlebends.fractions import over_by
from gentlebends.fractions import plus_by
from gentlebends.fractions import sign_of
from gentlebends.fractions import square_of
from gentlebends.fractions import times_by
from gentlebends.polys import number_at
from gentlebends.polys import slope_of
from gentlebends.polys import value_of
from gentlebends.rows import length_of
from gentlebends.rows import value_at
from gentlebends.rowsums import row_scaled

SHAPES = ("rising", "falling", "cupped", "capped")
CONTRARY_SHAPES = {"falling": "rising", "capped": "cupped"}


def has_shaped_kinds(thing):
    """Whether any plain thing is a triple (shape, price, points) by its kinds, whatever the points are."""
    if not isinstance(thing, tuple) or len(thing) != 3:
        return False
    shape, price, points = thing
    if shape not in SHAPES or not is_above_nought(price):
        return False
    return isinstance(points, tuple) and 2 <= len(points) <= 6


def is_shaped_point(thing):
    """Whether any plain thing is a triple (place, y, w) of FRACTIONs, w above nought."""
    if not isinstance(thing, tuple) or len(thing) != 3:
        return False
    return is_fraction(thing[0]) and is_fraction(thing[1]) and is_above_nought(thing[2])


def ask_shaped(thing):
    """True where any plain thing is a SHAPED."""
    if not has_shaped_kinds(thing):
        raise NoTask("shape", -1)
    points = thing[2]
    for k, point in enumerate(points):
        if not is_shaped_point(point):
            raise NoTask("point", k)
    for k in range(1, len(points)):
        if not is_below(points[k - 1][0], points[k][0]):
            raise NoTask("places", k)
    return True


def is_never_below(poly, d):
    """Whether a POLY of degree at most two is nowhere below nought from 0 to d."""
    if sign_of(number_at(poly, 0)) < 0 or sign_of(value_of(poly, d)) < 0:
        return False
    bend = number_at(poly, 2)
    if sign_of(bend) <= 0:
        return True
    # Bent upward it may dip between its ends: it is lowest where its slope is nought.
    lowest = over_by(poly[1], times_by((-2, 1), bend))
    if not is_below(NOUGHT, lowest) or not is_below(lowest, d):
        return True
    return sign_of(value_of(poly, lowest)) >= 0


def is_rising_row(row):
    """Whether no slope of a ROW is below nought."""
    return all(is_never_below(slope_of(piece), length_of(row, k)) for k, piece in enumerate(row[1]))


def is_cupped_row(row):
    """Whether no slope's slope of a ROW is below nought, and its slope falls at no inner cut."""
    pieces = row[1]
    for k, piece in enumerate(pieces):
        slope = slope_of(piece)
        d = length_of(row, k)
        if not is_never_below(slope_of(slope), d):
            return False
        if k + 1 < len(pieces) and is_below(number_at(pieces[k + 1], 1), value_of(slope, d)):
            return False
    return True


def has_shape(shape, row):
    """Whether a ROW has a shape everywhere in its stretch."""
    if shape in CONTRARY_SHAPES:
        return has_shape(CONTRARY_SHAPES[shape], row_scaled(row, (-1, 1)))
    return is_rising_row(row) if shape == "rising" else is_cupped_row(row)


def shaped_cost(shaped, row):
    """What a ROW over the stretch of a SHAPED's places costs."""
    shape, price, points = shaped
    cost = times_by(price, bending_of(1, row))
    for place, y, w in points:
        miss = minus_by(value_at(row, place), y)
        cost = plus_by(cost, times_by(w, square_of(miss)))
    return cost
