"""POLYs: tuples of at most four FRACTIONs by rising power, the last one not nought."""

from gentlebends.fractions import NOUGHT
from gentlebends.fractions import contrary_of
from gentlebends.fractions import fraction_of
from gentlebends.fractions import is_fraction
from gentlebends.fractions import minus_by
from gentlebends.fractions import plus_by
from gentlebends.fractions import times_by


def is_poly(thing):
    """Whether any plain thing is a POLY."""
    if not isinstance(thing, tuple) or len(thing) > 4:
        return False
    if not all(is_fraction(number) for number in thing):
        return False
    return len(thing) == 0 or thing[-1] != NOUGHT


def without_last(things, nought):
    """The tuple of a list of things, those at its end left out that are nought."""
    many = len(things)
    while many > 0 and things[many - 1] == nought:
        many -= 1
    return tuple(things[:many])


def poly_of(numbers):
    """The POLY of a list of FRACTIONs by rising power."""
    return without_last(numbers, NOUGHT)


def number_at(poly, power):
    """The number of a POLY at a power, nought where it has none."""
    return poly[power] if power < len(poly) else NOUGHT


def poly_sum(one, other):
    """The sum of two POLYs."""
    many = max(len(one), len(other))
    return poly_of([plus_by(number_at(one, k), number_at(other, k)) for k in range(many)])


def poly_scaled(poly, by):
    """A POLY times a FRACTION."""
    return poly_of([times_by(number, by) for number in poly])


def product_numbers(one, other):
    """The numbers of the product of two POLYs, of whatever degree it is."""
    if not one or not other:
        return []
    numbers = [NOUGHT] * (len(one) + len(other) - 1)
    for j, a in enumerate(one):
        for k, b in enumerate(other):
            numbers[j + k] = plus_by(numbers[j + k], times_by(a, b))
    return numbers


def poly_times(one, other):
    """The product of two POLYs whose degrees come to at most three."""
    return poly_of(product_numbers(one, other))


def raw_value(numbers, t):
    """The value at t as (n, d), d above nought, perhaps not lowest; t need not be lowest either."""
    # Great numbers are quick to multiply and slow to reduce, so the asker reduces once, or compares crosswise.
    if not numbers:
        return NOUGHT
    if t[0] == 0:
        return numbers[0]
    n, d = numbers[-1]
    for a, b in reversed(numbers[:-1]):
        n, d = n * t[0] * b + a * d * t[1], d * t[1] * b
    return (n, d)


def value_of(poly, t):
    """The value of a POLY at a FRACTION."""
    n, d = raw_value(poly, t)
    return fraction_of(n, d)


def slope_of(poly):
    """The slope of a POLY."""
    return tuple(times_by((k, 1), poly[k]) for k in range(1, len(poly)))


def moved_poly(poly, a):
    """The POLY whose value at t is this one's at t + a."""
    numbers = list(poly)
    if a == NOUGHT:
        return tuple(numbers)
    for low in range(len(numbers) - 1):
        for k in range(len(numbers) - 2, low - 1, -1):
            numbers[k] = plus_by(numbers[k], times_by(a, numbers[k + 1]))
    return tuple(numbers)


def mirrored_poly(poly):
    """The POLY whose value at t is this one's at -t."""
    return tuple(contrary_of(number) if k & 1 else number for k, number in enumerate(poly))


def under_numbers(numbers, low, high):
    """The sum beneath a polynomial of any degree from low to high."""
    beneath = [NOUGHT]
    for k, number in enumerate(numbers):
        beneath.append(times_by(number, (1, k + 1)))
    return minus_by(value_of(beneath, high), value_of(beneath, low))


def under_poly(poly, low, high):
    """The sum beneath a POLY from low to high."""
    return under_numbers(poly, low, high)


def under_product(one, other, low, high):
    """The sum beneath the product of two POLYs from low to high."""
    return under_numbers(product_numbers(one, other), low, high)
