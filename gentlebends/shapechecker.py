"""The small checker of SHAPED PAPERs: it multiplies, adds and looks, and solves and seeks nothing."""

from gentlebends.errors import NoPaper
from gentlebends.fractions import NOUGHT
from gentlebends.fractions import are_fractions
from gentlebends.fractions import contrary_of
from gentlebends.fractions import minus_by
from gentlebends.fractions import over_by
from gentlebends.fractions import plus_by
from gentlebends.fractions import sign_of
from gentlebends.fractions import times_by
from gentlebends.polys import number_at
from gentlebends.rows import is_row
from gentlebends.rows import value_at


def shaped_places(shaped):
    """The places of a SHAPED's points."""
    return tuple(point[0] for point in shaped[2])


def is_sloped(shape):
    """Whether a shape is about slopes, one bind a piece; else it is about turns, one bind an inner place."""
    return shape in ("rising", "falling")


def is_upward(shape):
    """Whether a shape lets nothing below nought; else it lets nothing above nought."""
    return shape in ("rising", "cupped")


def how_many_binds(shaped):
    """How many binds a paper of a SHAPED has."""
    return len(shaped[2]) - 1 if is_sloped(shaped[0]) else len(shaped[2]) - 2


def is_shaped_paper(shaped, thing):
    """Whether any plain thing is a SHAPED PAPER by its kinds, with as many binds as are due."""
    if not isinstance(thing, tuple) or len(thing) != 3:
        return False
    word, row, binds = thing
    if word != "shaped" or not is_row(row):
        return False
    return are_fractions(binds) and len(binds) == how_many_binds(shaped)


def line_slopes(row):
    """The slopes of a ROW of straight pieces."""
    return [number_at(piece, 1) for piece in row[1]]


def bound_sizes(shape, row):
    """What a shape bounds, for each bind: the slope of its piece, or how much the slope grows at its place."""
    slopes = line_slopes(row)
    if is_sloped(shape):
        return slopes
    return [minus_by(slopes[k], slopes[k - 1]) for k in range(1, len(slopes))]


def kept_fault(shape, row):
    """Where a ROW of straight pieces first hasn't a shape, None where it has it."""
    due = 1 if is_upward(shape) else -1
    first = 0 if is_sloped(shape) else 1
    for k, size in enumerate(bound_sizes(shape, row)):
        if due * sign_of(size) < 0:
            return ("kept", first + k)
    return None


def bind_fault(shape, row, binds):
    """The first bind that is below nought, or isn't nought where nothing binds, None without any."""
    for k, size in enumerate(bound_sizes(shape, row)):
        if sign_of(binds[k]) < 0 or (binds[k] != NOUGHT and size != NOUGHT):
            return ("bind", k)
    return None


def shaped_pulls(shaped, row):
    """The PULL of each place."""
    shape, price, points = shaped
    # The slope of a missing side is nought.
    slopes = [NOUGHT, *line_slopes(row), NOUGHT]
    pulls = []
    for k, (place, y, w) in enumerate(points):
        bent = times_by(price, minus_by(slopes[k], slopes[k + 1]))
        pulls.append(plus_by(bent, times_by(w, minus_by(value_at(row, place), y))))
    return pulls


def piece_pulls(shape, places, binds):
    """For each piece what the binds make of pull at its end, and the contrary of it at its begin."""
    if is_sloped(shape):
        return list(binds)
    # Binds that aren't there, of the first place and of the last, are nought.
    every = [NOUGHT, *binds, NOUGHT]
    pulls = []
    for k in range(len(places) - 1):
        pulls.append(over_by(minus_by(every[k], every[k + 1]), minus_by(places[k + 1], places[k])))
    return pulls


def pulls_by_binds(shape, places, binds):
    """What the binds make of the PULL of each place."""
    parts = [NOUGHT, *piece_pulls(shape, places, binds), NOUGHT]
    pulls = [minus_by(parts[k], parts[k + 1]) for k in range(len(places))]
    return pulls if is_upward(shape) else [contrary_of(pull) for pull in pulls]


def row_fault(shaped, row):
    """The first fault of a paper's row, None without any."""
    if row[0] != shaped_places(shaped):
        return ("cuts", -1)
    for k, piece in enumerate(row[1]):
        if len(piece) > 2:
            return ("degree", k)
    return kept_fault(shaped[0], row)


def pull_fault(shaped, row, binds):
    """The first place whose PULL isn't what the binds make of it, None without any."""
    due = pulls_by_binds(shaped[0], shaped_places(shaped), binds)
    for k, pull in enumerate(shaped_pulls(shaped, row)):
        if pull != due[k]:
            return ("pull", k)
    return None


def lets_shaped(shaped, thing):
    """True where any plain thing is a SHAPED PAPER that its row is the least one of a SHAPED."""
    if not is_shaped_paper(shaped, thing):
        raise NoPaper("shape", -1)
    row, binds = thing[1], thing[2]
    fault = row_fault(shaped, row)
    if fault is None:
        fault = bind_fault(shaped[0], row, binds)
    if fault is None:
        fault = pull_fault(shaped, row, binds)
    if fault is not None:
        word, number = fault
        raise NoPaper(word, number)
    return True
