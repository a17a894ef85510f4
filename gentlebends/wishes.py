"""TASKs with one wish turned: a bound let go or held fast, a wish's number moved."""

from gentlebends.boundlists import bounds_of
from gentlebends.errors import NoTask


def with_wish(task, k, which, wish):
    """A TASK with another value wish (which 0) or slope wish (which 1) of point k."""
    sort, turn, price, points = task
    place, value_wish, slope_wish = points[k]
    point = (place, wish, slope_wish) if which == 0 else (place, value_wish, wish)
    return (sort, turn, price, (*points[:k], point, *points[k + 1:]))


def bound_at(task, i):
    """Bound number i of a TASK."""
    bounds = bounds_of(task)
    if not 0 <= i < len(bounds):
        raise NoTask("bound", i)
    return bounds[i]


def let_go(task, i):
    """A TASK with bound number i let go."""
    k, which, word, number = bound_at(task, i)
    return with_wish(task, k, which, ("free",))


def held_fast(task, i):
    """A TASK with bound number i held fast."""
    k, which, word, number = bound_at(task, i)
    return with_wish(task, k, which, ("held", number))


def wish_moved(task, k, which, number):
    """A TASK with another number of point k's value wish (which 0) or slope wish (which 1)."""
    points = task[3]
    if not 0 <= k < len(points):
        raise NoTask("wish", k)
    wish = points[k][1 + which]
    if wish[0] == "free":
        raise NoTask("wish", k)
    return with_wish(task, k, which, (wish[0], number, *wish[2:]))
