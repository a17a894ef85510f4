"""TASKs: whether a thing is a right one, where a ROW fails to keep it, and what a ROW costs by it."""

from gentlebends.bending import bending_of
from gentlebends.errors import NoTask
from gentlebends.fractions import is_above_nought
from gentlebends.fractions import is_below
from gentlebends.fractions import is_fraction
from gentlebends.fractions import is_whole
from gentlebends.fractions import minus_by
from gentlebends.fractions import plus_by
from gentlebends.fractions import square_of
from gentlebends.fractions import sum_of
from gentlebends.fractions import times_by
from gentlebends.rows import first_unlike_slopes
from gentlebends.rows import slope_at
from gentlebends.rows import value_at

FREE = ("free",)


def has_task_shape(thing):
    """Whether any plain thing is a tuple (sort, round, price, points) by its kinds, whatever the points are."""
    if not isinstance(thing, tuple) or len(thing) != 4:
        return False
    sort, turn, price, points = thing
    if not is_whole(sort) or sort not in (1, 3):
        return False
    if turn is not None and not is_fraction(turn):
        return False
    if not is_above_nought(price):
        return False
    return isinstance(points, tuple) and 2 <= len(points) <= 6


def is_slope_wish(thing):
    """Whether any plain thing is a SLOPE WISH."""
    if thing == FREE:
        return True
    if not isinstance(thing, tuple) or len(thing) != 2:
        return False
    return thing[0] in ("held", "least", "most") and is_fraction(thing[1])


def is_value_wish(thing):
    """Whether any plain thing is a VALUE WISH."""
    if isinstance(thing, tuple) and len(thing) == 3:
        return thing[0] == "near" and is_fraction(thing[1]) and is_above_nought(thing[2])
    return is_slope_wish(thing)


def is_point(sort, thing):
    """Whether any plain thing is a POINT of a TASK of this sort."""
    if not isinstance(thing, tuple) or len(thing) != 3:
        return False
    place, value_wish, slope_wish = thing
    if not is_fraction(place) or not is_value_wish(value_wish):
        return False
    return slope_wish == FREE or (sort == 3 and is_slope_wish(slope_wish))


def is_loose(task):
    """Whether too few wishes of a TASK are held or near for just one least ROW."""
    sort, turn, price, points = task
    told = [point for point in points if point[1][0] in ("held", "near")]
    if sort == 1 or turn is not None or any(point[2][0] == "held" for point in points):
        return len(told) < 1
    return len(told) < 2


def ask_task(thing):
    """True where any plain thing is a right TASK."""
    if not has_task_shape(thing):
        raise NoTask("shape", -1)
    sort, turn, price, points = thing
    for k, point in enumerate(points):
        if not is_point(sort, point):
            raise NoTask("point", k)
    for k in range(1, len(points)):
        if not is_below(points[k - 1][0], points[k][0]):
            raise NoTask("places", k)
    if turn is not None and not is_below(minus_by(points[-1][0], points[0][0]), turn):
        raise NoTask("round", -1)
    if is_loose(thing):
        raise NoTask("loose", -1)
    return True


def places_of(task):
    """The PLACES of a TASK: those of its points and, with a round, its END."""
    sort, turn, price, points = task
    places = [point[0] for point in points]
    if turn is not None:
        places.append(plus_by(places[0], turn))
    return tuple(places)


def keeps_wish(wish, number):
    """Whether a value or a slope keeps a wish."""
    word = wish[0]
    if word == "held":
        return number == wish[1]
    if word == "least":
        return not is_below(number, wish[1])
    if word == "most":
        return not is_below(wish[1], number)
    return True


def round_fault(sort, row):
    """How the two ends of a ROW fail to be alike, None where they don't."""
    begin, end = row[0][0], row[0][-1]
    if value_at(row, begin) != value_at(row, end):
        return ("round", 0)
    if sort == 3 and slope_at(row, begin) != slope_at(row, end):
        return ("round", 1)
    return None


def point_fault(points, row):
    """The first wish that a ROW doesn't keep, None where it keeps all."""
    for k, (place, value_wish, slope_wish) in enumerate(points):
        if not keeps_wish(value_wish, value_at(row, place)):
            return ("value", k)
        if not keeps_wish(slope_wish, slope_at(row, place)):
            return ("slope", k)
    return None


def fault_of(task, row):
    """None where a ROW keeps a TASK, else the first fault."""
    sort, turn, price, points = task
    places = places_of(task)
    if row[0][0] != places[0] or row[0][-1] != places[-1]:
        return ("stretch", -1)
    unlike = first_unlike_slopes(row) if sort == 3 else None
    if unlike is not None:
        return ("smooth", unlike)
    fault = None if turn is None else round_fault(sort, row)
    if fault is not None:
        return fault
    return point_fault(points, row)


def misses_of(task, row):
    """The MISSES of a TASK and a ROW of its stretch."""
    misses = []
    for place, value_wish, slope_wish in task[3]:
        if value_wish[0] == "near":
            miss = minus_by(value_at(row, place), value_wish[1])
            misses.append(times_by(value_wish[2], square_of(miss)))
    return sum_of(misses)


def cost_of(task, row):
    """What a ROW that keeps a TASK costs."""
    return plus_by(times_by(task[2], bending_of(task[0], row)), misses_of(task, row))
