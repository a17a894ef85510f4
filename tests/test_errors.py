"""The refusals: [2] and the interface's row of errors."""

import unittest

from gentlebends import errors
from helpers import ODD_THINGS, deep_thing

FIELDS = {
    "NoText": ("at",), "NoPlace": ("place",), "NoCut": ("number",), "NoSmooth": ("number",),
    "NoTask": ("word", "number"), "NoPaper": ("word", "number"), "NoKnots": ("word", "number"),
    "NoShares": ("number",), "NoKnot": ("number",), "NoSheet": ("word", "number"), "NoPoint": ("place",),
    "Twice": ("place",),
}
OF_TEXT = ("NoOver", "NoStretch", "NoOne")


class Errors(unittest.TestCase):

    def test_base(self):
        self.assertEqual(errors.BendError.__bases__, (ValueError,))
        self.assertEqual(len(FIELDS) + len(OF_TEXT), 15)

    def test_each_straight_under_the_base(self):
        for name in (*FIELDS, *OF_TEXT):
            self.assertEqual(getattr(errors, name).__bases__, (errors.BendError,), name)

    def test_fields_keep_the_very_things(self):
        things = [*ODD_THINGS, deep_thing(), "x" * 2000]
        for name, fields in FIELDS.items():
            kind = getattr(errors, name)
            for thing in things:
                made = kind(*[thing for field in fields])
                for field in fields:
                    self.assertIs(getattr(made, field), thing, name)

    def test_fields_stand_in_their_order(self):
        for name, fields in FIELDS.items():
            things = [[field] for field in fields]
            made = getattr(errors, name)(*things)
            for field, thing in zip(fields, things):
                self.assertIs(getattr(made, field), thing)
            self.assertEqual(sorted(vars(made)), sorted(fields))

    def test_nothing_is_looked_at(self):
        class Shy:
            def looked(self, *rest):
                raise AssertionError("looked at")
            __str__ = __repr__ = __eq__ = __len__ = __bool__ = __iter__ = looked
        for name, fields in FIELDS.items():
            made = getattr(errors, name)(*[Shy() for field in fields])
            str(made)
            repr(made)

    def test_great_numbers_can_be_shown(self):
        for name, fields in FIELDS.items():
            made = getattr(errors, name)(*[10 ** 9000 for field in fields])
            self.assertIsInstance(str(made), str)

    def test_made_of_a_text(self):
        for name in OF_TEXT:
            for text in ("", "no", "x" * 300):
                with self.assertRaises(errors.BendError) as caught:
                    raise getattr(errors, name)(text)
                self.assertEqual(type(caught.exception).__name__, name)

    def test_none_is_caught_as_another(self):
        names = (*FIELDS, *OF_TEXT)
        for name in names:
            for other in names:
                if name != other:
                    self.assertFalse(issubclass(getattr(errors, name), getattr(errors, other)))


if __name__ == "__main__":
    unittest.main()
