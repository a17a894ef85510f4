"""The SHAPED PAPER of a SHAPED: which of its bounds bind is sought."""

from gentlebends.fractions import NOUGHT
from gentlebends.fractions import contrary_of
from gentlebends.fractions import lengths_between
from gentlebends.fractions import minus_by
from gentlebends.fractions import over_by
from gentlebends.fractions import plus_by
from gentlebends.fractions import times_by
from gentlebends.rowsums import row_scaled
from gentlebends.seeking import sought_by
from gentlebends.settling import line_piece
from gentlebends.shapechecker import is_sloped
from gentlebends.shapechecker import shaped_places
from gentlebends.shapechecker import shaped_pulls
from gentlebends.shaping import CONTRARY_SHAPES


def form_sum(forms, factors):
    """Forms, each times its factor, added."""
    total = [NOUGHT] * len(forms[0])
    for form, factor in zip(forms, factors):
        total = [plus_by(a, times_by(factor, b)) for a, b in zip(total, form)]
    return total


def unit_form(many, at):
    """The form of an unknown alone."""
    return [(1, 1) if k == at else NOUGHT for k in range(many + 1)]


def slope_forms(places):
    """For each piece the form of its slope."""
    units = [unit_form(len(places), at) for at in range(len(places))]
    forms = []
    for k, d in enumerate(lengths_between(places)):
        over = over_by((1, 1), d)
        forms.append(form_sum(units[k:k + 2], [contrary_of(over), over]))
    return forms


def pull_forms(shaped):
    """For each place the form of its PULL."""
    shape, price, points = shaped
    many = len(points)
    level = [NOUGHT] * (many + 1)
    slopes = [level, *slope_forms(shaped_places(shaped)), level]
    forms = []
    for k, (place, y, w) in enumerate(points):
        miss = [*unit_form(many, k)[:many], y]
        forms.append(form_sum([slopes[k], slopes[k + 1], miss], [price, contrary_of(price), w]))
    return forms


def bind_factors(shape, places):
    """For each bind, and behind them for each equation, by what the PULLs of the places are multiplied in it.

    A rising row's bind is the contrary of all pulls ahead of its piece's end, summed; a cupped row's is the pulls ahead
    of its place, each times how far it is from there. So summed over all places both have to be nought.
    """
    many = len(places)
    if is_sloped(shape):
        return [[(-1, 1) if j <= k else NOUGHT for j in range(many)] for k in range(many)]
    factors = []
    for k in range(1, many):
        factors.append([minus_by(places[k], places[j]) if j < k else NOUGHT for j in range(many)])
    return [*factors, [(1, 1)] * many]


def rest_forms(shape, places):
    """For each bind the form that its bound keeps from being below nought."""
    slopes = slope_forms(places)
    if is_sloped(shape):
        return slopes
    return [form_sum([slopes[k], slopes[k - 1]], [(1, 1), (-1, 1)]) for k in range(1, len(slopes))]


def shaped_values(shaped):
    """The values at the places of the least row of a rising or a cupped SHAPED."""
    places = shaped_places(shaped)
    pulls = pull_forms(shaped)
    sums = [form_sum(pulls, factors) for factors in bind_factors(shaped[0], places)]
    rests = rest_forms(shaped[0], places)
    return sought_by(sums[len(rests):], list(zip(sums, rests)))


def upward_paper(shaped):
    """The SHAPED PAPER of a rising or a cupped SHAPED."""
    places = shaped_places(shaped)
    values = shaped_values(shaped)
    pieces = [line_piece(values[k], values[k + 1], d) for k, d in enumerate(lengths_between(places))]
    row = (places, tuple(pieces))
    pulls = [[pull] for pull in shaped_pulls(shaped, row)]
    many = len(rest_forms(shaped[0], places))
    binds = [form_sum(pulls, factors)[0] for factors in bind_factors(shaped[0], places)[:many]]
    return ("shaped", row, tuple(binds))


def shaped_paper_of(shaped):
    """The one SHAPED PAPER that is let by for a SHAPED."""
    shape, price, points = shaped
    if shape not in CONTRARY_SHAPES:
        return upward_paper(shaped)
    contrary = tuple((place, contrary_of(y), w) for place, y, w in points)
    word, row, binds = upward_paper((CONTRARY_SHAPES[shape], price, contrary))
    return (word, row_scaled(row, (-1, 1)), binds)
