"""The PULLS and the PRICES of a TASK and a ROW whose cuts are its PLACES."""

from gentlebends.bending import bent_of
from gentlebends.fractions import NOUGHT
from gentlebends.fractions import minus_by
from gentlebends.fractions import plus_by
from gentlebends.fractions import times_by
from gentlebends.polys import slope_of
from gentlebends.polys import value_of
from gentlebends.rows import length_of
from gentlebends.rows import value_at

NO_SIDE = ((0, 1), (0, 1))


def side_bends(sort, poly, t):
    """The slope of a POLY at t and its slope by sort 1, by sort 3 the second bend and the third."""
    bent = bent_of(sort, poly)
    return (value_of(bent, t), value_of(slope_of(bent), t))


def sides_ahead(task, row):
    """For each point the bends at the end of the piece that ends there."""
    ends = [side_bends(task[0], piece, length_of(row, k)) for k, piece in enumerate(row[1])]
    if task[1] is None:
        return [NO_SIDE, *ends]
    # With a round the last piece ends where the first point stands again.
    return [ends[-1], *ends[:-1]]


def sides_behind(task, row):
    """For each point the bends at the begin of the piece that begins there."""
    begins = [side_bends(task[0], piece, NOUGHT) for piece in row[1]]
    if task[1] is None:
        return [*begins, NO_SIDE]
    return begins


def pulls_of(task, row):
    """The PULLS: a tuple of one pair (p, q) a point."""
    pulls = []
    for ahead, behind in zip(sides_ahead(task, row), sides_behind(task, row)):
        turn = minus_by(ahead[0], behind[0])
        if task[0] == 1:
            pulls.append((turn, NOUGHT))
        else:
            pulls.append((minus_by(behind[1], ahead[1]), turn))
    return tuple(pulls)


def prices_of(task, row):
    """The PRICES: a tuple of one pair (a, b) a point."""
    prices = []
    for (place, value_wish, slope_wish), (p, q) in zip(task[3], pulls_of(task, row)):
        a = times_by(task[2], p)
        if value_wish[0] == "near":
            miss = minus_by(value_at(row, place), value_wish[1])
            a = plus_by(a, times_by(value_wish[2], miss))
        prices.append((a, times_by(task[2], q)))
    return tuple(prices)
