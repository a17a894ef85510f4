"""SHEETs: tuples (xcuts, ycuts, patches) of PATCHes that are joined at their borders."""

from gentlebends.fractions import NOUGHT
from gentlebends.fractions import lengths_between
from gentlebends.fractions import minus_by
from gentlebends.fractions import sum_of
from gentlebends.fractions import times_by
from gentlebends.polys import is_poly
from gentlebends.polys import number_at
from gentlebends.polys import poly_of
from gentlebends.polys import poly_scaled
from gentlebends.polys import poly_sum
from gentlebends.polys import under_poly
from gentlebends.polys import value_of
from gentlebends.polys import without_last
from gentlebends.rows import are_cuts
from gentlebends.rows import span_behind


def is_patch(thing):
    """Whether any plain thing is a PATCH."""
    if not isinstance(thing, tuple) or len(thing) > 4:
        return False
    if not all(is_poly(poly) for poly in thing):
        return False
    return len(thing) == 0 or thing[-1] != ()


def are_patches(thing, columns, lines):
    """Whether any plain thing is a tuple of so many columns, each a tuple of so many PATCHes."""
    if not isinstance(thing, tuple) or len(thing) != columns:
        return False
    for column in thing:
        if not isinstance(column, tuple) or len(column) != lines:
            return False
        if not all(is_patch(patch) for patch in column):
            return False
    return True


def patch_of(polys):
    """The PATCH of a list of POLYs by rising power of y."""
    return without_last(polys, ())


def patch_at_x(patch, t):
    """The heights of a PATCH, t behind its first xcut, as a POLY of y less its first ycut."""
    return poly_of([value_of(poly, t) for poly in patch])


def patch_at_y(patch, t):
    """The heights of a PATCH, t behind its first ycut, as a POLY of x less its first xcut."""
    total = ()
    for poly in patch[::-1]:
        total = poly_sum(poly_scaled(total, t), poly)
    return total


def are_joined_columns(one, other, width):
    """Whether each PATCH of a column so wide has one height with its neighbour of the next column at their border."""
    return all(patch_at_x(a, width) == patch_at_x(b, NOUGHT) for a, b in zip(one, other))


def is_joined_column(column, lengths):
    """Whether the PATCHes of a column, so long each, have one height with one another at their borders."""
    for j in range(1, len(column)):
        if patch_at_y(column[j - 1], lengths[j - 1]) != patch_at_y(column[j], NOUGHT):
            return False
    return True


def is_joined_sheet(xcuts, ycuts, patches):
    """Whether two PATCHes with a border between them have one height at each place of it."""
    widths, lengths = lengths_between(xcuts), lengths_between(ycuts)
    if not all(is_joined_column(column, lengths) for column in patches):
        return False
    return all(are_joined_columns(patches[i - 1], patches[i], widths[i - 1]) for i in range(1, len(patches)))


def is_sheet(thing):
    """Whether any plain thing is a SHEET."""
    if not isinstance(thing, tuple) or len(thing) != 3:
        return False
    xcuts, ycuts, patches = thing
    if not are_cuts(xcuts) or not are_cuts(ycuts):
        return False
    return are_patches(patches, len(xcuts) - 1, len(ycuts) - 1) and is_joined_sheet(xcuts, ycuts, patches)


def height_at(sheet, x, y):
    """The height of a SHEET at a place."""
    xcuts, ycuts, patches = sheet
    i = span_behind(xcuts, x)
    j = span_behind(ycuts, y)
    return value_of(patch_at_x(patches[i][j], minus_by(x, xcuts[i])), minus_by(y, ycuts[j]))


def row_at_x(sheet, x):
    """The ROW of a SHEET at x, over y."""
    xcuts, ycuts, patches = sheet
    i = span_behind(xcuts, x)
    t = minus_by(x, xcuts[i])
    return (ycuts, tuple(patch_at_x(patch, t) for patch in patches[i]))


def row_at_y(sheet, y):
    """The ROW of a SHEET at y, over x."""
    xcuts, ycuts, patches = sheet
    j = span_behind(ycuts, y)
    t = minus_by(y, ycuts[j])
    return (xcuts, tuple(patch_at_y(column[j], t) for column in patches))


def turned_patch(patch):
    """A PATCH with x and y exchanged."""
    many = max([len(poly) for poly in patch], default=0)
    return tuple(poly_of([number_at(poly, power) for poly in patch]) for power in range(many))


def sheet_turned(sheet):
    """The SHEET that has at (y, x) the height that this one has at (x, y)."""
    xcuts, ycuts, patches = sheet
    turned = []
    for j in range(len(ycuts) - 1):
        turned.append(tuple(turned_patch(column[j]) for column in patches))
    return (ycuts, xcuts, tuple(turned))


def under_column(column, lengths):
    """The sums beneath a column's ROWs at x, as a POLY of x less its first xcut."""
    total = ()
    for patch, d in zip(column, lengths):
        # The sum beneath t ** k from 0 to d is d ** (k + 1) / (k + 1).
        grown = (1, 1)
        for power, poly in enumerate(patch):
            grown = times_by(grown, d)
            total = poly_sum(total, poly_scaled(poly, times_by(grown, (1, power + 1))))
    return total


def under_sheet(sheet):
    """The sum beneath a whole SHEET."""
    xcuts, ycuts, patches = sheet
    lengths = lengths_between(ycuts)
    sums = []
    for column, width in zip(patches, lengths_between(xcuts)):
        sums.append(under_poly(under_column(column, lengths), NOUGHT, width))
    return sum_of(sums)
