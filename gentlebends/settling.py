"""The PAPER of a TASK with some of its bounds held."""

from gentlebends.asking import places_of
from gentlebends.fractions import NOUGHT
from gentlebends.fractions import lengths_between
from gentlebends.fractions import minus_by
from gentlebends.fractions import over_by
from gentlebends.fractions import plus_by
from gentlebends.fractions import times_by
from gentlebends.polys import poly_of
from gentlebends.pulling import prices_of
from gentlebends.solving import solved_by

# What a piece of length 1 pulls at its two ends, for each unknown of its ends: by sort 1 the two values, by sort 3
# value and slope of the first end and of the second. Each slope among the two unknowns is one length d less to
# divide by: from d by sort 1 and d ** 3 by sort 3.
LINE_PULLS = ((1, -1), (-1, 1))
BEAM_PULLS = ((12, 6, -12, 6), (6, 4, -6, 2), (-12, -6, 12, -6), (6, 2, -6, 4))


def told_numbers(task, tight):
    """For each wish, value wish ahead of slope wish, the number that it holds its unknown at, or None."""
    numbers = []
    bound = 0
    for place, value_wish, slope_wish in task[3]:
        for wish in (value_wish, slope_wish):
            is_bound = wish[0] in ("least", "most")
            is_told = wish[0] == "held" or (is_bound and bound in tight)
            numbers.append(wish[1] if is_told else None)
            if is_bound:
                bound += 1
    return numbers


def lengths_of(task):
    """How long the pieces between a TASK's PLACES are."""
    return lengths_between(places_of(task))


def piece_pulls(sort, d):
    """The square of FRACTIONs by which a piece of length d pulls at its ends."""
    if sort == 1:
        return [[times_by((number, 1), over_by((1, 1), d)) for number in line] for line in LINE_PULLS]
    over = [over_by((1, 1), d)]
    over.append(times_by(over[0], over[0]))
    over.append(times_by(over[0], over[1]))
    square = []
    for j, line in enumerate(BEAM_PULLS):
        square.append([times_by((number, 1), over[2 - (j & 1) - (k & 1)]) for k, number in enumerate(line)])
    return square


def all_pulls(task):
    """The square of FRACTIONs by which all pieces pull at the points, for each unknown."""
    sort = task[0]
    each = 1 if sort == 1 else 2
    many = each * len(task[3])
    square = [[NOUGHT] * many for unknown in range(many)]
    for piece, d in enumerate(lengths_of(task)):
        # Behind the last point the first one stands again: that is so with a round alone.
        unknowns = [(each * piece + k) % many for k in range(2 * each)]
        pulls = piece_pulls(sort, d)
        for j, line in enumerate(unknowns):
            for k, column in enumerate(unknowns):
                square[line][column] = plus_by(square[line][column], pulls[j][k])
    return square


def held_line(many, at):
    """The equation of an unknown that is told: itself alone."""
    return [(1, 1) if k == at else NOUGHT for k in range(many)]


def priced_lines(task):
    """For each unknown the equation, with its right, that its price is nought."""
    lines = [[times_by(task[2], number) for number in line] for line in all_pulls(task)]
    rights = [NOUGHT] * len(lines)
    each = len(lines) // len(task[3])
    for point, (place, value_wish, slope_wish) in enumerate(task[3]):
        if value_wish[0] == "near":
            at = each * point
            lines[at][at] = plus_by(lines[at][at], value_wish[2])
            rights[at] = times_by(value_wish[2], value_wish[1])
    return (lines, rights)


def settled_unknowns(task, tight):
    """The values at the points, by sort 3 value and slope of each in turn."""
    lines, rights = priced_lines(task)
    told = told_numbers(task, tight)
    if task[0] == 1:
        told = told[::2]
    for at, number in enumerate(told):
        if number is not None:
            lines[at] = held_line(len(lines), at)
            rights[at] = number
    return solved_by(lines, rights)


def line_piece(u, v, d):
    """The POLY of degree at most one from value u to value v, d apart."""
    return poly_of([u, over_by(minus_by(v, u), d)])


def bent_piece(begin, end, d):
    """The POLY from one pair of value and slope to another, d apart."""
    u, s = begin
    v, t = end
    chord = over_by(minus_by(v, u), d)
    third = minus_by(plus_by(s, t), times_by((2, 1), chord))
    second = minus_by(minus_by(times_by((3, 1), chord), times_by((2, 1), s)), t)
    return poly_of([u, s, over_by(second, d), over_by(third, times_by(d, d))])


def row_of_unknowns(task, unknowns):
    """The ROW over a TASK's PLACES with these values, by sort 3 values and slopes, at its points."""
    many = len(task[3])
    pieces = []
    for k, d in enumerate(lengths_of(task)):
        after = (k + 1) % many
        if task[0] == 1:
            pieces.append(line_piece(unknowns[k], unknowns[after], d))
        else:
            begin, end = unknowns[2 * k:2 * k + 2], unknowns[2 * after:2 * after + 2]
            pieces.append(bent_piece(begin, end, d))
    return (places_of(task), tuple(pieces))


def paper_of_unknowns(task, unknowns):
    """The ROW with these values, by sort 3 values and slopes, at the points, with its prices, as a paper."""
    row = row_of_unknowns(task, unknowns)
    return ("least", row, prices_of(task, row))


def settled_by(task, tight):
    """The paper of a TASK SETTLED by a rising tuple of bounds' numbers."""
    return paper_of_unknowns(task, settled_unknowns(task, tight))
