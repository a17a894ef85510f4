"""What a bound costs, and how bending and misses are traded for one another by other prices."""

from gentlebends.asking import cost_of
from gentlebends.asking import misses_of
from gentlebends.bending import bending_of
from gentlebends.fractions import minus_by
from gentlebends.fractions import times_by
from gentlebends.leastpapers import ask_few_bounds
from gentlebends.leastpapers import least_paper_of
from gentlebends.wishes import let_go


def least_cost(task):
    """What the row that costs least costs."""
    return cost_of(task, least_paper_of(task)[1])


def toll_of(task, i):
    """What the least row costs more by bound number i than with it let go."""
    # Too many bounds are refused ahead of a number that no bound has.
    ask_few_bounds(task)
    loosened = let_go(task, i)
    return minus_by(least_cost(task), least_cost(loosened))


def traded_pair(task, factor):
    """BENDING and misses of the least row by the price times a factor."""
    sort, turn, price, points = task
    row = least_paper_of((sort, turn, times_by(price, factor), points))[1]
    return (bending_of(sort, row), misses_of(task, row))


def traded_by(task, factors):
    """For each factor of the price a pair (bending, misses) of the least row."""
    ask_few_bounds(task)
    return [traded_pair(task, factor) for factor in factors]
