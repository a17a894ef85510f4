"""The SMOOTHEST rows through heights, and the papers of TASKs without bounds."""

from gentlebends.boundlists import bounds_of
from gentlebends.errors import NoTask
from gentlebends.fractions import NOUGHT
from gentlebends.settling import settled_by


def smoothest_through(sort, turn, heights):
    """The paper of the SMOOTHEST row of a sort through heights, turn being how long its round is, or None."""
    points = tuple((place, ("held", value), ("free",)) for place, value in heights)
    return settled_by((sort, turn, (1, 1), points), ())


def unit_row(sort, places, k):
    """The SMOOTHEST row of a sort without a round that is 1 at place k and nought at the others."""
    heights = tuple((place, (1, 1) if j == k else NOUGHT) for j, place in enumerate(places))
    return smoothest_through(sort, None, heights)[1]


def ask_no_bounds(task):
    """Nothing, or NoTask where a TASK has bounds."""
    bounds = bounds_of(task)
    if bounds:
        raise NoTask("bounds", bounds[0][0])


def near_paper(task):
    """The paper of a TASK without bounds."""
    ask_no_bounds(task)
    return settled_by(task, ())
