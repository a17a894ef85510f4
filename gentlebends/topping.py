"""The HIGHEST of a ROW, and papers that it is nowhere above a bound, or somewhere."""

from gentlebends.fractions import greatest_of
from gentlebends.fractions import is_below
from gentlebends.heading import cut_values
from gentlebends.heading import halved_row
from gentlebends.heading import heads_of
from gentlebends.topchecker import first_above


def highest_of(row, many):
    """The pair (low, high) between which the greatest value of a ROW lies, seen from the ROW HALVED many times."""
    heads = heads_of(halved_row(row, many))
    return (greatest_of(cut_values(heads)), greatest_of([head for four in heads for head in four]))


def below_paper(row, bound, many):
    """A paper that a ROW is above a bound or nowhere above it, as far as the ROW HALVED many times shows it."""
    halved = halved_row(row, many)
    heads = heads_of(halved)
    for cut, value in zip(halved[0], cut_values(heads)):
        if is_below(bound, value):
            return ("above", cut)
    if first_above(heads, bound) is not None:
        return ("open",)
    return ("below", halved[0][1:-1])
