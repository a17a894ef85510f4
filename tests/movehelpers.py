"""Smoothest rows without a round a second way, by their second bends, with Python's own arithmetic."""

from fractions import Fraction

from helpers import FREE, f, q, trimmed
from shapehelpers import line_row, solved


def own_second_bends(places, values):
    """The second bends of the smoothest row of sort 3, all Python's own numbers: slopes alike at each inner place."""
    last = len(places) - 1
    lines = []
    for k in range(last + 1):
        line = [Fraction(0)] * (last + 2)
        if k in (0, last):
            line[k] = Fraction(1)
        else:
            ahead, behind = places[k] - places[k - 1], places[k + 1] - places[k]
            line[k - 1], line[k], line[k + 1] = ahead, 2 * (ahead + behind), behind
            line[-1] = 6 * ((values[k + 1] - values[k]) / behind - (values[k] - values[k - 1]) / ahead)
        lines.append(line)
    return solved(lines)


def own_smoothest(sort, heights):
    """The smoothest ROW of a sort through heights, pairs of FRACTIONs."""
    places, values = [q(place) for place, value in heights], [q(value) for place, value in heights]
    if sort == 1:
        return line_row([place for place, value in heights], values)
    bends = own_second_bends(places, values)
    pieces = []
    for k in range(len(places) - 1):
        d = places[k + 1] - places[k]
        slope = (values[k + 1] - values[k]) / d - d * (2 * bends[k] + bends[k + 1]) / 6
        pieces.append(trimmed([values[k], slope, bends[k] / 2, (bends[k + 1] - bends[k]) / (6 * d)]))
    return (tuple(f(place) for place in places), tuple(pieces))


def own_unit(sort, places, k):
    """The smoothest ROW that is 1 at place k and nought at the others."""
    return own_smoothest(sort, [(place, f(int(j == k))) for j, place in enumerate(places)])


def told_of(some):
    """The TOLD numbers of a TASK without bounds: (k, which, number)."""
    return [(k, which, wish[1]) for k, point in enumerate(some[3]) for which, wish in enumerate(point[1:]) if wish != FREE]
