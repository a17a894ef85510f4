"""The SMOOTHEST rows through heights, and the papers of TASKs without bounds."""

from gentlebends.boundlists import bounds_of
from gentlebends.errors import NoTask
from gentlebends.settling import settled_by


def smoothest_through(sort, turn, heights):
    """The paper of the SMOOTHEST row of a sort through heights, turn being how long its round is, or None."""
    points = tuple((place, ("held", value), ("free",)) for place, value in heights)
    return settled_by((sort, turn, (1, 1), points), ())


def near_paper(task):
    """The paper of a TASK without bounds."""
    bounds = bounds_of(task)
    if bounds:
        raise NoTask("bounds", bounds[0][0])
    return settled_by(task, ())
