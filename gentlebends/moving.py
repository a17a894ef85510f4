"""Points moved: the SHARE ROWs of a TASK's TOLD numbers, what a moved value turns, and how bends die away."""

from gentlebends.errors import NoPoint
from gentlebends.fractions import NOUGHT
from gentlebends.fractions import minus_by
from gentlebends.rows import bends_at
from gentlebends.rowsums import row_scaled
from gentlebends.smoothing import ask_no_bounds
from gentlebends.smoothing import near_paper
from gentlebends.smoothing import unit_row


def unit_wish(wish, is_chosen):
    """A wish with 1 in the place of its TOLD number where it is the chosen one, else with nought."""
    if wish[0] == "free":
        return wish
    return (wish[0], (1, 1) if is_chosen else NOUGHT, *wish[2:])


def unit_task(task, k, which):
    """A TASK with 1 in the place of the value (which 0) or slope (which 1) of point k, and nought of each other one."""
    sort, turn, price, points = task
    units = []
    for j, (place, value_wish, slope_wish) in enumerate(points):
        value_unit = unit_wish(value_wish, j == k and which == 0)
        slope_unit = unit_wish(slope_wish, j == k and which == 1)
        units.append((place, value_unit, slope_unit))
    return (sort, turn, price, tuple(units))


def share_row(task, k, which):
    """The SHARE ROW of the value (which 0) or the slope (which 1) of point k."""
    ask_no_bounds(task)
    points = task[3]
    if not 0 <= k < len(points) or points[k][1 + which][0] == "free":
        raise NoPoint(k)
    return near_paper(unit_task(task, k, which))[1]


def value_share(task, k):
    """The SHARE ROW of the value of point k."""
    return share_row(task, k, 0)


def slope_share(task, k):
    """The SHARE ROW of the held slope of point k."""
    return share_row(task, k, 1)


def turned_by(task, k, value):
    """What the row of a TASK is turned by when the value of point k becomes another one."""
    share = value_share(task, k)
    told = task[3][k][1][1]
    return row_scaled(share, minus_by(value, told))


def second_bend_at(row, x):
    """The second bend of a ROW behind a place, at its last cut that ahead of it."""
    ahead, behind = bends_at(row, x)
    return ahead[2] if behind is None else behind[2]


def bends_dying(places, k):
    """For each place the second bend of the SMOOTHEST row of sort 3 that is 1 at place k and nought at the others."""
    if not 0 <= k < len(places):
        raise NoPoint(k)
    row = unit_row(3, places, k)
    return [second_bend_at(row, place) for place in places]
