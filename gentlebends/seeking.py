"""The one answer by which of each pair of forms one is nought and the other is not below nought.

A form is a list of FRACTIONs, one for each unknown, and last its right: its size is their products, summed, less the
right.
"""

from gentlebends.fractions import fraction_of
from gentlebends.solving import whole_answer
from gentlebends.solving import whole_line


def is_below_by(form, numbers, below):
    """Whether a form of whole numbers is below nought where the unknowns are numbers over below."""
    return sum([a * number for a, number in zip(form, numbers)]) < form[-1] * below


def first_wrong(pairs, chosen, numbers, below):
    """The number of the first pair whose form that isn't chosen is below nought, None without any."""
    for k, pair in enumerate(pairs):
        if is_below_by(pair[1 - chosen[k]], numbers, below):
            return k
    return None


def sought_by(equations, pairs):
    """The unknowns by which each equation is nought, and of each pair one form, the other not below nought.

    Of a cost that has one least, a pair is the form of a bound's price and the form of what is left up to the bound.
    """
    grid = [whole_line(form) for form in equations]
    whole_pairs = [(whole_line(price), whole_line(rest)) for price, rest in pairs]
    chosen = [0] * len(pairs)
    while True:
        lines = [pair[which] for pair, which in zip(whole_pairs, chosen)]
        numbers, below = whole_answer([*grid, *lines], len(grid) + len(lines))
        wrong = first_wrong(whole_pairs, chosen, numbers, below)
        if wrong is None:
            return tuple(fraction_of(number, below) for number in numbers)
        # Of all wrong pairs just the first is turned: only so it is sure that no choice comes again.
        chosen[wrong] = 1 - chosen[wrong]
