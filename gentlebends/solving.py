"""Equations solved in whole numbers, reduced only at the end."""

from gentlebends.errors import NoOne
from gentlebends.fractions import common_of
from gentlebends.fractions import fraction_of


def whole_line(numbers):
    """A list of FRACTIONs times the least number that makes all of them whole."""
    by = 1
    for n, d in numbers:
        by = by // common_of(by, d) * d
    return [n * (by // d) for n, d in numbers]


def pivot_of(grid, column):
    """The number of the first line from the column's own on that isn't nought there."""
    for k in range(column, len(grid)):
        if grid[k][column] != 0:
            return k
    raise NoOne("there are many answers, or none")


def cleared_line(line, chosen, column, last):
    """A line made nought in a column by the chosen line."""
    by, own = chosen[column], line[column]
    # The pivot before this one divides each number here without rest: so they stay small without reducing.
    return [(by * a - own * b) // last for a, b in zip(line, chosen)]


def cleared_grid(grid, column, last):
    """A grid with its column nought but in the line of the same number, which has the pivot."""
    at = pivot_of(grid, column)
    lines = list(grid)
    lines[column], lines[at] = lines[at], lines[column]
    chosen = lines[column]
    return [line if k == column else cleared_line(line, chosen, column, last) for k, line in enumerate(lines)]


def whole_answer(grid, many):
    """The one answer for so many unknowns as whole numbers over one above nought; a line's last number is its right."""
    lines = list(grid)
    last = 1
    for column in range(many):
        lines = cleared_grid(lines, column, last)
        last = lines[column][column]
    if any(line[many] != 0 for line in lines[many:]):
        raise NoOne("there is no answer")
    # Each step makes the pivots ahead of it its own pivot: so one number stands below all unknowns.
    sign = 1 if last > 0 else -1
    return ([sign * lines[k][many] for k in range(many)], sign * last)


def solved_by(rows, rights):
    """The one tuple of FRACTIONs by which each row's products, summed, are its right."""
    grid = [whole_line([*row, right]) for row, right in zip(rows, rights)]
    numbers, below = whole_answer(grid, len(rows[0]))
    return tuple(fraction_of(number, below) for number in numbers)
