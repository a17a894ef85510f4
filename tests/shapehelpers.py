"""A second way to shaped papers, by Python's own arithmetic: all choices of binding bounds are looked through."""

from fractions import Fraction

from helpers import f, q, subsets, trimmed


def solved(lines):
    """The unknowns of lines, each with its right last; there is just one answer."""
    lines = [list(line) for line in lines]
    many = len(lines)
    for column in range(many):
        at = next(k for k in range(column, many) if lines[k][column] != 0)
        lines[column], lines[at] = lines[at], lines[column]
        by = lines[column][column]
        lines[column] = [number / by for number in lines[column]]
        for k in range(many):
            if k != column and lines[k][column] != 0:
                own = lines[k][column]
                lines[k] = [a - own * b for a, b in zip(lines[k], lines[column])]
    return [line[-1] for line in lines]


def bound_lines(some):
    """For each bind, what its bound is about, as numbers by which the values are multiplied: never below nought."""
    shape, price, points = some
    many = len(points)
    places = [q(point[0]) for point in points]
    side = 1 if shape in ("rising", "cupped") else -1
    lines = []
    if shape in ("rising", "falling"):
        for k in range(many - 1):
            line = [Fraction(0)] * many
            line[k], line[k + 1] = Fraction(-side), Fraction(side)
            lines.append(line)
    else:
        for k in range(1, many - 1):
            line = [Fraction(0)] * many
            ahead, behind = 1 / (places[k] - places[k - 1]), 1 / (places[k + 1] - places[k])
            line[k - 1], line[k], line[k + 1] = side * ahead, -side * (ahead + behind), side * behind
            lines.append(line)
    return lines


def pull_lines(some):
    """For each place its PULL as numbers by which the values are multiplied, and last what is taken off."""
    shape, price, points = some
    many = len(points)
    lines = [[Fraction(0)] * (many + 1) for point in points]
    for k in range(many - 1):
        stiff = q(price) / (q(points[k + 1][0]) - q(points[k][0]))
        for here, there in ((k, k + 1), (k + 1, k)):
            lines[here][here] += stiff
            lines[here][there] -= stiff
    for k, (place, y, w) in enumerate(points):
        lines[k][k] += q(w)
        lines[k][-1] = q(w) * q(y)
    return lines


def line_row(places, values):
    """The ROW of straight lines through values, Python's own numbers, at places, FRACTIONs."""
    pieces = []
    for k in range(len(places) - 1):
        long = q(places[k + 1]) - q(places[k])
        pieces.append(trimmed([values[k], (values[k + 1] - values[k]) / long]))
    return (tuple(places), tuple(pieces))


def settled_values(some, tight):
    """Values and binds with these bounds binding, each other bind nought."""
    bounds, pulls = bound_lines(some), pull_lines(some)
    many, binds = len(pulls), len(bounds)
    lines = [line[:-1] + [-bounds[k][at] for k in range(binds)] + line[-1:] for at, line in enumerate(pulls)]
    for k in range(binds):
        if k in tight:
            lines.append(bounds[k] + [Fraction(0)] * (binds + 1))
        else:
            lines.append([Fraction(0)] * many + [Fraction(int(j == k)) for j in range(binds)] + [Fraction(0)])
    found = solved(lines)
    return found[:many], found[many:]


def own_papers(some):
    """All SHAPED PAPERs among the settled ones that are right: of each SHAPED there is just one."""
    bounds = bound_lines(some)
    papers = []
    for tight in subsets(len(bounds)):
        values, binds = settled_values(some, tight)
        sizes = [sum(a * value for a, value in zip(line, values)) for line in bounds]
        if min([*binds, *sizes], default=0) >= 0:
            row = line_row([point[0] for point in some[2]], values)
            papers.append(("shaped", row, tuple(f(bind) for bind in binds)))
    return papers
