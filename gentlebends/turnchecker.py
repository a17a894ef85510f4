"""The small checker of TURNS PAPERs: it adds and multiplies, and seeks nothing."""

from gentlebends.cutting import are_one
from gentlebends.errors import NoPaper
from gentlebends.fractions import are_fractions
from gentlebends.hills import shared_row
from gentlebends.knots import how_many_hills
from gentlebends.knots import knots_fault
from gentlebends.sides import turns_in


def is_turns_paper(degree, thing):
    """Whether any plain thing is a TURNS PAPER by its kinds, with as many shares as hills."""
    if not isinstance(thing, tuple) or len(thing) != 3:
        return False
    word, knots, shares = thing
    if word != "turns" or knots_fault(degree, knots) is not None:
        return False
    return are_fractions(shares) and len(shares) == how_many_hills(degree, knots)


def lets_turns(degree, row, many, thing):
    """True where any plain thing is a TURNS PAPER that a ROW turns its side at most so many times."""
    if not is_turns_paper(degree, thing):
        raise NoPaper("shape", -1)
    word, knots, shares = thing
    if not are_one(shared_row(degree, knots, shares), row):
        raise NoPaper("row", -1)
    if turns_in(shares) > many:
        raise NoPaper("turns", -1)
    return True
