"""Texts of FRACTIONs: [11]."""

import itertools
import math
import random
import re
import unittest

from gentlebends.errors import NoText
from gentlebends.texts import read_fraction, shown_fraction
from helpers import Asking, f, fraction, lucas_pair

BEGUN = re.compile(r"-?|0/?|-?[1-9][0-9]*/?|(0|-?[1-9][0-9]*)/[1-9][0-9]*")
WHOLE = re.compile(r"(0|-?[1-9][0-9]*)(?:/([1-9][0-9]*))?")


def due_place(text):
    """The place of the fault by the words of [11], or None: sign by sign, which begin some right text."""
    for many in range(len(text)):
        if not BEGUN.fullmatch(text[:many + 1]):
            return many
    found = WHOLE.fullmatch(text)
    if not found:
        return len(text)
    if found[2] is None:
        return None
    if found[2] == "1" or math.gcd(int(found[1]), int(found[2])) != 1:
        return text.index("/") + 1
    return None


class Texts(Asking, unittest.TestCase):

    def test_shown(self):
        for one, due in (((0, 1), "0"), ((5, 1), "5"), ((-5, 1), "-5"), ((3, 2), "3/2"), ((-3, 20), "-3/20"),
                         ((10 ** 64, 1), "1" + "0" * 64), ((1, 10 ** 64 + 5), "1/1" + "0" * 63 + "5"),
                         ((10 ** 128 + 3, 7), "1" + "0" * 127 + "3/7")):
            self.tells(due, shown_fraction, one)

    def test_shown_two_thousand_figures(self):
        a, b = lucas_pair(2000)
        self.tells("-" + str(a) + "/" + str(b), shown_fraction, (-a, b))
        self.tells("1/" + "9" * 2000, shown_fraction, (1, 10 ** 2000 - 1))
        text = self.told(shown_fraction, (-b, a))
        self.tells((-b, a), read_fraction, text)

    def test_read_is_shown(self):
        chance = random.Random(20)
        for time in range(300):
            one = fraction(chance, chance.choice((1, 2, 30, 90)))
            text = self.told(shown_fraction, one)
            self.tells(one, read_fraction, text)

    def test_named_texts(self):
        for text, at in (("", 0), ("-", 1), ("3/", 2), ("0/5", 2), ("01", 1), ("-0", 1), ("3/0", 2), ("3/1", 2),
                         ("6/4", 2), ("-6/4", 3), ("3/05", 2), ("00", 1), ("1/2/3", 3), ("1/-2", 2), ("--1", 1),
                         ("+1", 0), (" 1", 0), ("1 ", 1), ("1/ 2", 2), ("1/2 ", 3), ("/2", 0), ("-/2", 1), ("0/1", 2),
                         ("0/", 2), ("-5/", 3), ("12a", 2), ("12/3a", 4), ("1.5", 1), ("1_0", 1), ("abc", 0),
                         ("0/0", 2), ("-0/5", 1), ("12/18", 3), ("7/1", 2), ("7/10/", 4), ("7/1x", 3), ("4/2x", 3)):
            self.refuses(NoText, {"at": at}, read_fraction, text)

    def test_all_short_texts(self):
        for many in range(6):
            for signs in itertools.product("-/0126", repeat=many):
                text = "".join(signs)
                at = due_place(text)
                if at is None:
                    above, slash, below = text.partition("/")
                    self.tells(f(int(above), int(below or 1)), read_fraction, text)
                else:
                    self.refuses(NoText, {"at": at}, read_fraction, text)

    def test_every_sign_that_a_text_may_have(self):
        for code in range(32, 127):
            for ahead in ("", "-", "0", "5", "5/", "5/7"):
                text = ahead + chr(code)
                at = due_place(text)
                if at is None:
                    above, slash, below = text.partition("/")
                    self.tells(f(int(above), int(below or 1)), read_fraction, text)
                else:
                    self.refuses(NoText, {"at": at}, read_fraction, text)

    def test_two_hundred_signs(self):
        text = "9" * 99 + "/" + "1" + "0" * 99
        self.tells((10 ** 99 - 1, 10 ** 99), read_fraction, text)
        self.tells((10 ** 199, 1), read_fraction, "1" + "0" * 199)
        self.refuses(NoText, {"at": 199}, read_fraction, "1" * 199 + "x")
        self.refuses(NoText, {"at": 101}, read_fraction, "2" * 100 + "/" + "2" * 99)
        self.refuses(NoText, {"at": 200}, read_fraction, "2" * 199 + "/")


if __name__ == "__main__":
    unittest.main()
