"""The HEADS of a ROW's pieces, between which its values lie, and ROWs HALVED."""

from gentlebends.cutting import recut_row
from gentlebends.fractions import plus_by
from gentlebends.fractions import times_by
from gentlebends.polys import number_at
from gentlebends.polys import value_of
from gentlebends.rows import length_of


def piece_heads(poly, d):
    """The four HEADS of a POLY from 0 to d."""
    third = times_by(d, (1, 3))
    rise = times_by(number_at(poly, 1), third)
    bend = times_by(number_at(poly, 2), times_by(d, third))
    first = number_at(poly, 0)
    second = plus_by(first, rise)
    return (first, second, plus_by(plus_by(second, rise), bend), value_of(poly, d))


def heads_of(row):
    """The HEADS of a ROW: a tuple of four FRACTIONs for each piece."""
    return tuple(piece_heads(piece, length_of(row, k)) for k, piece in enumerate(row[1]))


def cut_values(heads):
    """The values at all cuts of a ROW, by the HEADS of its pieces."""
    # A piece's first HEAD is its value at its begin, the last one that at its end.
    return [four[0] for four in heads] + [heads[-1][3]]


def halved_cuts(cuts):
    """Rising cuts, and the middle of each two neighbours."""
    halved = [cuts[0]]
    for k in range(1, len(cuts)):
        halved.append(times_by(plus_by(cuts[k - 1], cuts[k]), (1, 2)))
        halved.append(cuts[k])
    return halved


def halved_row(row, many):
    """A ROW HALVED many times."""
    cuts = row[0]
    for halving in range(many):
        cuts = halved_cuts(cuts)
    return recut_row(row, cuts)
