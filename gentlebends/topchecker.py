"""The small checker of papers that a ROW is nowhere above a bound, or is above it somewhere."""

from gentlebends.cutting import with_cuts
from gentlebends.errors import NoPaper
from gentlebends.fractions import are_fractions
from gentlebends.fractions import is_below
from gentlebends.fractions import is_fraction
from gentlebends.fractions import is_rising
from gentlebends.heading import heads_of
from gentlebends.rows import is_outside
from gentlebends.rows import value_at


def are_paper_cuts(row, thing):
    """Whether any plain thing is a tuple of FRACTIONs, rising, between the ends of a ROW."""
    if not are_fractions(thing):
        return False
    return is_rising((row[0][0], *thing, row[0][-1]))


def is_below_paper(row, thing):
    """Whether any plain thing is a paper by its kinds and places."""
    if not isinstance(thing, tuple) or len(thing) != 2:
        return False
    word, told = thing
    if word == "below":
        return are_paper_cuts(row, told)
    return word == "above" and is_fraction(told) and not is_outside(row, told)


def first_above(heads, bound):
    """The number of the first piece that has a HEAD above a bound, None without any."""
    for k, four in enumerate(heads):
        if any(is_below(bound, head) for head in four):
            return k
    return None


def lets_below(row, bound, thing):
    """True where any plain thing is a paper that a ROW is nowhere above a bound, or that it is somewhere."""
    if not is_below_paper(row, thing):
        raise NoPaper("shape", -1)
    word, told = thing
    if word == "above":
        if not is_below(bound, value_at(row, told)):
            raise NoPaper("place", -1)
        return True
    k = first_above(heads_of(with_cuts(row, told)), bound)
    if k is not None:
        raise NoPaper("piece", k)
    return True
