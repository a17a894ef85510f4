"""ROWs with cuts put in and left out, and parts of ROWs."""

from gentlebends.errors import NoCut
from gentlebends.errors import NoPlace
from gentlebends.fractions import is_below
from gentlebends.fractions import minus_by
from gentlebends.polys import moved_poly
from gentlebends.rows import is_outside
from gentlebends.rows import piece_at
from gentlebends.rows import smooth_at


def recut_row(row, cuts):
    """A ROW over rising cuts of its stretch, all its own cuts between the first and the last of them with them."""
    pieces = []
    for cut in cuts[:-1]:
        k = piece_at(row, cut)
        pieces.append(moved_poly(row[1][k], minus_by(cut, row[0][k])))
    return (tuple(cuts), tuple(pieces))


def merged_cuts(one, other):
    """The FRACTIONs of two rising tuples, rising, each once."""
    merged = []
    j = k = 0
    while j < len(one) and k < len(other):
        if is_below(one[j], other[k]):
            merged.append(one[j])
            j += 1
        elif is_below(other[k], one[j]):
            merged.append(other[k])
            k += 1
        else:
            merged.append(one[j])
            j += 1
            k += 1
    merged.extend(one[j:])
    merged.extend(other[k:])
    return tuple(merged)


def with_cuts(row, places):
    """A ROW with rising places of its stretch as cuts, too."""
    return recut_row(row, merged_cuts(row[0], places))


def with_cut(row, x):
    """A ROW with one cut more, as it is where it has that cut."""
    if is_outside(row, x):
        raise NoPlace(x)
    return with_cuts(row, (x,))


def kept_cuts(row, inner):
    """A ROW with these of its inner cuts alone, where it is smooth of 3 at all others."""
    cuts, pieces = row
    begins = [0, *inner]
    kept = [cuts[k] for k in begins]
    # A piece that goes on beyond a left out cut is the same POLY: it stands in the place less its own first cut.
    return ((*kept, cuts[-1]), tuple(pieces[k] for k in begins))


def without_cut(row, k):
    """A ROW without its inner cut number k."""
    if smooth_at(row, k) != 3:
        raise NoCut(k)
    return kept_cuts(row, [j for j in range(1, len(row[1])) if j != k])


def bare_row(row):
    """A ROW without all its inner cuts at which it is smooth of 3."""
    return kept_cuts(row, [k for k in range(1, len(row[1])) if smooth_at(row, k) != 3])


def have_one_stretch(one, other):
    """Whether two ROWs have one stretch."""
    return one[0][0] == other[0][0] and one[0][-1] == other[0][-1]


def are_one(one, other):
    """Whether two ROWs have one stretch and the same value at each place of it."""
    return have_one_stretch(one, other) and bare_row(one) == bare_row(other)


def part_of(row, low, high):
    """The part of a ROW from low to high."""
    if is_outside(row, low):
        raise NoPlace(low)
    if is_outside(row, high) or not is_below(low, high):
        raise NoPlace(high)
    between = [cut for cut in row[0] if is_below(low, cut) and is_below(cut, high)]
    return recut_row(row, (low, *between, high))
