"""The small checker of papers that a ROW has a height at just so many places."""

from gentlebends.cutting import with_cuts
from gentlebends.errors import NoPaper
from gentlebends.fractions import NOUGHT
from gentlebends.fractions import is_whole
from gentlebends.fractions import minus_by
from gentlebends.heading import cut_values
from gentlebends.heading import heads_of
from gentlebends.sides import turns_in
from gentlebends.topchecker import are_paper_cuts


def is_meets_paper(row, thing):
    """Whether any plain thing is a paper by its kinds and places."""
    if not isinstance(thing, tuple) or len(thing) != 3:
        return False
    word, cuts, many = thing
    if word != "meets" or not are_paper_cuts(row, cuts):
        return False
    return is_whole(many) and many >= 0


def heads_over(row, height):
    """The HEADS of a ROW, each less a height."""
    return [[minus_by(head, height) for head in four] for four in heads_of(row)]


def first_unclear(overs):
    """The number of the first piece whose HEADS, less the height, are all nought or TURN oftener than once, or None."""
    for k, four in enumerate(overs):
        if four == [NOUGHT] * 4 or turns_in(four) > 1:
            return k
    return None


def how_often_met(overs):
    """At how many places a ROW has the height, where no piece of it is unclear."""
    # A piece that turns once has the height just once between its ends, one that doesn't has it at most at them.
    return cut_values(overs).count(NOUGHT) + sum([turns_in(four) for four in overs])


def lets_meets(row, height, thing):
    """True where any plain thing is a paper that a ROW has a height at just so many places."""
    if not is_meets_paper(row, thing):
        raise NoPaper("shape", -1)
    word, cuts, many = thing
    overs = heads_over(with_cuts(row, cuts), height)
    k = first_unclear(overs)
    if k is not None:
        raise NoPaper("piece", k)
    due = how_often_met(overs)
    if many != due:
        raise NoPaper("many", due)
    return True
