"""Papers that a ROW has a height at just so many places."""

from gentlebends.heading import halved_row
from gentlebends.meetchecker import first_unclear
from gentlebends.meetchecker import heads_over
from gentlebends.meetchecker import how_often_met


def meets_paper(row, height, many):
    """A paper at how many places a ROW has a height, as far as the ROW HALVED many times shows it."""
    halved = halved_row(row, many)
    overs = heads_over(halved, height)
    if first_unclear(overs) is not None:
        return ("open",)
    return ("meets", halved[0][1:-1], how_often_met(overs))
