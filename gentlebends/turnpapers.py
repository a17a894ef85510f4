"""The TURNS PAPER of a ROW OF KNOTS."""

from gentlebends.putting import put_all
from gentlebends.shares import shares_of_row


def turns_paper(degree, knots, row, places):
    """The TURNS PAPER of a ROW OF KNOTS, by these with places put in."""
    more, shares = put_all(degree, knots, shares_of_row(degree, knots, row), places)
    return ("turns", more, shares)
