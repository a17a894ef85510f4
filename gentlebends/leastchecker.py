"""The small checker of PAPERs: it multiplies, adds and looks, and solves and seeks nothing."""

from gentlebends.asking import fault_of
from gentlebends.asking import places_of
from gentlebends.errors import NoPaper
from gentlebends.fractions import is_fraction
from gentlebends.fractions import sign_of
from gentlebends.pulling import prices_of
from gentlebends.rows import is_row
from gentlebends.rows import slope_at
from gentlebends.rows import value_at


def are_prices(thing, many):
    """Whether any plain thing is a tuple of so many pairs of FRACTIONs."""
    if not isinstance(thing, tuple) or len(thing) != many:
        return False
    for pair in thing:
        if not isinstance(pair, tuple) or len(pair) != 2:
            return False
        if not is_fraction(pair[0]) or not is_fraction(pair[1]):
            return False
    return True


def is_paper(task, thing):
    """Whether any plain thing is a PAPER with a pair of prices for each point of a TASK."""
    if not isinstance(thing, tuple) or len(thing) != 3:
        return False
    word, row, prices = thing
    return word == "least" and is_row(row) and are_prices(prices, len(task[3]))


def row_fault(task, row):
    """The first fault of a paper's row, None without any."""
    if row[0] != places_of(task):
        return ("cuts", -1)
    if task[0] == 1:
        for k, piece in enumerate(row[1]):
            if len(piece) > 2:
                return ("degree", k)
    return fault_of(task, row)


def lets_price(wish, number, price):
    """Whether a wish lets a price where the row has a number as its value or slope."""
    word = wish[0]
    sign = sign_of(price)
    if sign == 0 or word == "held":
        return True
    if word == "least":
        return sign == 1 and number == wish[1]
    if word == "most":
        return sign == -1 and number == wish[1]
    return False


def lets_pair(point, row, pair):
    """Whether the two wishes of a point let its pair of prices."""
    place, value_wish, slope_wish = point
    if not lets_price(value_wish, value_at(row, place), pair[0]):
        return False
    return lets_price(slope_wish, slope_at(row, place), pair[1])


def price_fault(task, row, prices):
    """The first fault of a paper's prices, None without any."""
    for k, pair in enumerate(prices_of(task, row)):
        if pair != prices[k]:
            return ("price", k)
    for k, point in enumerate(task[3]):
        if not lets_pair(point, row, prices[k]):
            return ("sign", k)
    return None


def lets_least(task, thing):
    """True where any plain thing is a PAPER that its row is the least one of a TASK."""
    if not is_paper(task, thing):
        raise NoPaper("shape", -1)
    row, prices = thing[1], thing[2]
    fault = row_fault(task, row)
    if fault is None:
        fault = price_fault(task, row, prices)
    if fault is not None:
        word, number = fault
        raise NoPaper(word, number)
    return True
