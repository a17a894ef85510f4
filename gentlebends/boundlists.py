"""The BOUNDS of a TASK, and which of them bind or have a price by its paper."""

from gentlebends.fractions import NOUGHT
from gentlebends.rows import slope_at
from gentlebends.rows import value_at


def bounds_of(task):
    """The BOUNDS in order: a list of tuples (k, which, word, number)."""
    bounds = []
    for k, (place, value_wish, slope_wish) in enumerate(task[3]):
        for which, wish in enumerate((value_wish, slope_wish)):
            if wish[0] in ("least", "most"):
                bounds.append((k, which, wish[0], wish[1]))
    return bounds


def how_many_bounds(task):
    """How many BOUNDS a TASK has."""
    return len(bounds_of(task))


def number_wished_at(row, place, which):
    """What a ROW has at a place: its value where which is 0, its slope where it is 1."""
    return value_at(row, place) if which == 0 else slope_at(row, place)


def binding_of(task, paper):
    """The numbers of the BINDING bounds, rising."""
    binding = []
    for i, (k, which, word, number) in enumerate(bounds_of(task)):
        if number_wished_at(paper[1], task[3][k][0], which) == number:
            binding.append(i)
    return binding


def priced_of(task, paper):
    """The numbers of the PRICED bounds, rising."""
    prices = paper[2]
    return [i for i, (k, which, word, number) in enumerate(bounds_of(task)) if prices[k][which] != NOUGHT]
