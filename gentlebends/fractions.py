"""FRACTIONs: tuples (n, d) of whole numbers in lowest terms, d from 1 on."""

from gentlebends.errors import NoOver

NOUGHT = (0, 1)


def is_whole(thing):
    """Whether a thing is a whole number: a truth is none."""
    return isinstance(thing, int) and not isinstance(thing, bool)


def common_of(a, b):
    """The greatest common divisor of two numbers from nought on."""
    # A loop and no recursion: numbers of thousands of figures may need very many steps.
    while b:
        a, b = b, a % b
    return a


def is_fraction(thing):
    """Whether any plain thing is a FRACTION."""
    if not isinstance(thing, tuple) or len(thing) != 2:
        return False
    n, d = thing
    if not is_whole(n) or not is_whole(d) or d < 1:
        return False
    return common_of(abs(n), d) == 1


def are_fractions(thing):
    """Whether any plain thing is a tuple of FRACTIONs, perhaps of none."""
    return isinstance(thing, tuple) and all(is_fraction(one) for one in thing)


def is_above_nought(thing):
    """Whether any plain thing is a FRACTION above nought."""
    return is_fraction(thing) and thing[0] > 0


def fraction_of(n, d):
    """The FRACTION n divided by d."""
    if d == 0:
        raise NoOver("nothing is divided by nought")
    if d < 0:
        n, d = -n, -d
    common = common_of(abs(n), d)
    return (n // common, d // common)


def plus_by(one, other):
    """The sum of two FRACTIONs."""
    a, b = one
    c, d = other
    # Both are lowest, so the sum can only be divided by what divides both b and d: to reduce by that is far
    # quicker, with great numbers, than to reduce the whole sum.
    common = common_of(b, d)
    part = b // common
    n = a * (d // common) + c * part
    rest = common_of(abs(n), common)
    return (n // rest, part * (d // rest))


def contrary_of(one):
    """Nought less a FRACTION."""
    return (-one[0], one[1])


def minus_by(one, other):
    """The first FRACTION less the second."""
    return plus_by(one, contrary_of(other))


def times_by(one, other):
    """Two FRACTIONs multiplied."""
    a, b = one
    c, d = other
    # Both are lowest, so only what divides one's above and the other's below can be left out.
    first = common_of(abs(a), d)
    second = common_of(abs(c), b)
    return ((a // first) * (c // second), (b // second) * (d // first))


def over_by(one, other):
    """The first FRACTION over the second."""
    n, d = other
    if n == 0:
        raise NoOver("nothing is divided by nought")
    return times_by(one, (d, n) if n > 0 else (-d, -n))


def square_of(one):
    """A FRACTION times itself."""
    return times_by(one, one)


def sum_of(some):
    """The sum of a list of FRACTIONs, nought of none."""
    total = NOUGHT
    for one in some:
        total = plus_by(total, one)
    return total


def sign_of(one):
    """The sign of a FRACTION: -1, 0 or 1."""
    if one[0] > 0:
        return 1
    if one[0] < 0:
        return -1
    return 0


def is_below(one, other):
    """Whether the first FRACTION is below the second."""
    return one[0] * other[1] < other[0] * one[1]


def is_rising(some):
    """Whether each of some FRACTIONs is above the one ahead of it."""
    return all(is_below(some[k], some[k + 1]) for k in range(len(some) - 1))


def lengths_between(places):
    """How far each of some FRACTIONs is from the next one."""
    return [minus_by(places[k + 1], places[k]) for k in range(len(places) - 1)]


def least_of(some):
    """The least of a list of one or more FRACTIONs."""
    least = some[0]
    for one in some:
        if is_below(one, least):
            least = one
    return least


def greatest_of(some):
    """The greatest of a list of one or more FRACTIONs."""
    greatest = some[0]
    for one in some:
        if is_below(greatest, one):
            greatest = one
    return greatest
