"""FRACTIONs written as texts and read from them."""

from gentlebends.errors import NoText
from gentlebends.fractions import common_of

FIGURES = "0123456789"
FIRST_FIGURES = "123456789"
# Python itself turns only so many figures at once into a number or back: longer ones go part by part.
PART = 64
PART_SIZE = 10 ** 64


def figures_of(n):
    """The figures of a number from nought on."""
    parts = []
    while n >= PART_SIZE:
        n, low = divmod(n, PART_SIZE)
        parts.append(str(low).zfill(PART))
    parts.append(str(n))
    return "".join(parts[::-1])


def whole_of(figures):
    """The number that figures write."""
    first = len(figures) % PART
    n = int("0" + figures[:first])
    for at in range(first, len(figures), PART):
        n = n * PART_SIZE + int(figures[at:at + PART])
    return n


def shown_fraction(one):
    """A FRACTION as a text."""
    n, d = one
    text = figures_of(abs(n))
    if n < 0:
        text = "-" + text
    if d != 1:
        text = text + "/" + figures_of(d)
    return text


def number_end(text, at, may_be_nought):
    """The place behind the number that begins at a place of a text."""
    if may_be_nought and text[at:at + 1] == "0":
        return at + 1
    if at == len(text) or text[at] not in FIRST_FIGURES:
        raise NoText(at)
    while at < len(text) and text[at] in FIGURES:
        at += 1
    return at


def read_below(text, at):
    """The d of a text, its figures from a place to the text's end."""
    end = number_end(text, at, False)
    if end < len(text):
        raise NoText(end)
    return whole_of(text[at:end])


def read_fraction(text):
    """The FRACTION that a text writes."""
    begin = 1 if text.startswith("-") else 0
    end = number_end(text, begin, begin == 0)
    n = whole_of(text[begin:end])
    if begin == 1:
        n = -n
    if end == len(text):
        return (n, 1)
    if text[end] != "/":
        raise NoText(end)
    d = read_below(text, end + 1)
    if d == 1 or common_of(abs(n), d) != 1:
        raise NoText(end + 1)
    return (n, d)
