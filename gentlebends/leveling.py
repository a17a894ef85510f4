"""The LEVELS of a ROW, places with slope nought, and its SLOPE ROW."""

from gentlebends.bending import ask_smooth
from gentlebends.fractions import NOUGHT
from gentlebends.fractions import is_below
from gentlebends.fractions import over_by
from gentlebends.fractions import sign_of
from gentlebends.fractions import times_by
from gentlebends.polys import slope_of
from gentlebends.polys import value_of
from gentlebends.rows import length_of


def turning_marks(slope, d):
    """0, d, and between them the place, if any, where a POLY of degree at most two ceases to rise or to fall."""
    if len(slope) == 3:
        # A POLY of degree two turns where its own slope is nought.
        turn = over_by(slope[1], times_by((-2, 1), slope[2]))
        if is_below(NOUGHT, turn) and is_below(turn, d):
            return [NOUGHT, turn, d]
    return [NOUGHT, d]


def piece_levels(slope, d):
    """How many places strictly between 0 and d a slope is nought at, 3 where it is nought everywhere."""
    if slope == ():
        return 3
    signs = [sign_of(value_of(slope, mark)) for mark in turning_marks(slope, d)]
    # From mark to mark the slope only rises or only falls: it is nought between them just where signs are contrary.
    between = [k for k in range(1, len(signs)) if signs[k - 1] * signs[k] < 0]
    return len(between) + signs[1:-1].count(0)


def levels_of(row):
    """For each piece of a ROW how many places strictly between its ends have slope nought, 3 where all have."""
    return tuple(piece_levels(slope_of(piece), length_of(row, k)) for k, piece in enumerate(row[1]))


def slope_row(row):
    """The ROW with the same cuts that has at each place a ROW's slope."""
    ask_smooth(row)
    return (row[0], tuple(slope_of(piece) for piece in row[1]))
