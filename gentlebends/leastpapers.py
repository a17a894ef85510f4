"""The PAPER of a TASK with at most four bounds: which of them bind is sought."""

from gentlebends.boundlists import bounds_of
from gentlebends.errors import NoTask
from gentlebends.fractions import contrary_of
from gentlebends.seeking import sought_by
from gentlebends.settling import held_line
from gentlebends.settling import paper_of_unknowns
from gentlebends.settling import priced_lines


def ask_few_bounds(task):
    """Nothing, or NoTask where a TASK has more than four bounds."""
    bounds = bounds_of(task)
    if len(bounds) > 4:
        raise NoTask("bounds", bounds[4][0])


def wishes_of(task):
    """For each unknown its wish: by sort 1 the value wishes, by sort 3 value wish and slope wish of each point."""
    if task[0] == 1:
        return [point[1] for point in task[3]]
    return [wish for point in task[3] for wish in point[1:]]


def contrary_form(form):
    """A form of contrary size."""
    return [contrary_of(number) for number in form]


def bound_pair(word, price, rest):
    """The forms of a bound's price and of what is left up to it, such that neither may be below nought."""
    return (price, rest) if word == "least" else (contrary_form(price), contrary_form(rest))


def least_unknowns(task):
    """The values at the points, by sort 3 value and slope of each in turn, of the row that costs least."""
    lines, rights = priced_lines(task)
    equations = []
    pairs = []
    for at, wish in enumerate(wishes_of(task)):
        price = [*lines[at], rights[at]]
        if wish[0] in ("near", "free"):
            equations.append(price)
            continue
        rest = [*held_line(len(lines), at), wish[1]]
        if wish[0] == "held":
            equations.append(rest)
        else:
            pairs.append(bound_pair(wish[0], price, rest))
    return sought_by(equations, pairs)


def least_paper_of(task):
    """The PAPER that is let by for a TASK of at most four bounds."""
    ask_few_bounds(task)
    return paper_of_unknowns(task, least_unknowns(task))
