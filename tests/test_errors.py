"""The refusals: their bases, their fields, how they are raised and caught."""

import copy
import unittest

from ringingcalls import errors
from tests.helper import ODD

UNDER_RING = [
    "NoNames", "NoSort", "NoWord", "NoNumber", "NoGroups", "NoTarget", "NoRank", "NoRole", "NoTruth",
    "NoWorld", "NoDeed", "NoLetter", "NoRule",
]
BASES = {name: errors.RingError for name in UNDER_RING}
BASES.update({
    "NoText": errors.RingError, "NoRow": errors.RingError, "NoName": KeyError, "NoCall": LookupError,
    "NoRing": LookupError, "NoTalk": LookupError, "TooMany": OverflowError, "Busy": RuntimeError,
    "RingError": ValueError,
})
FIELDS = {name: "thing" for name in UNDER_RING + ["NoName", "NoCall", "NoRing", "NoTalk"]}
FIELDS.update({"NoText": "row", "TooMany": "many"})


class Mute:
    """An object that refuses to be shown."""

    def __str__(self):
        raise AssertionError("shown")

    def __repr__(self):
        raise AssertionError("shown")


def made(name):
    """An error of that name, made as it is told."""
    return getattr(errors, name)("odd")


class Bases(unittest.TestCase):
    def test_each_stands_straight_under_its_base(self):
        for name, base in BASES.items():
            self.assertEqual(getattr(errors, name).__bases__, (base,), name)

    def test_none_is_under_another(self):
        for name in BASES:
            for other in BASES:
                if other not in (name, "RingError"):
                    self.assertFalse(issubclass(getattr(errors, name), getattr(errors, other)), (name, other))

    def test_what_is_beside_is_not_under_ring_error(self):
        for name in ("NoName", "NoCall", "NoRing", "NoTalk", "TooMany", "Busy"):
            self.assertFalse(issubclass(getattr(errors, name), errors.RingError), name)

    def test_no_call_ring_or_talk_is_a_key_error(self):
        for name in ("NoCall", "NoRing", "NoTalk"):
            self.assertFalse(issubclass(getattr(errors, name), KeyError), name)


class Fields(unittest.TestCase):
    def test_the_field_is_the_very_thing_by_place(self):
        for name, field in FIELDS.items():
            for thing in ODD:
                error = getattr(errors, name)(thing)
                self.assertIs(getattr(error, field), thing, name)

    def test_the_field_is_the_very_thing_by_name(self):
        for name, field in FIELDS.items():
            for thing in ODD:
                error = getattr(errors, name)(**{field: thing})
                self.assertIs(getattr(error, field), thing, name)

    def test_a_thing_must_be_handed_in(self):
        for name in FIELDS:
            with self.assertRaises(TypeError):
                getattr(errors, name)()

    def test_words_never_ask_the_thing(self):
        for name in FIELDS:
            error = getattr(errors, name)(Mute())
            self.assertIsInstance(str(error), str)
            self.assertIsInstance(repr(error), str)

    def test_a_copy_has_the_field(self):
        for name, field in FIELDS.items():
            self.assertEqual(getattr(copy.copy(made(name)), field), "odd", name)

    def test_rows_and_busy_are_made_of_texts(self):
        self.assertEqual(str(errors.NoRow("no row")), "no row")
        self.assertEqual(str(errors.Busy("under way")), "under way")
        self.assertEqual(str(errors.Busy()), "")


class Raised(unittest.TestCase):
    def test_caught_as_itself_and_as_its_base(self):
        for name, base in BASES.items():
            for kind in (getattr(errors, name), base):
                with self.assertRaises(kind) as caught:
                    raise made(name)
                self.assertIs(type(caught.exception), getattr(errors, name))

    def test_what_is_under_ring_error_is_a_value_error(self):
        for name in UNDER_RING + ["NoText", "NoRow"]:
            with self.assertRaises(ValueError):
                raise made(name)

    def test_not_caught_as_another(self):
        for name in BASES:
            for other in BASES:
                if other not in (name, "RingError"):
                    self.assertFalse(self.is_caught(made(name), getattr(errors, other)), (name, other))

    def is_caught(self, error, kind):
        """Whether the error is caught as of that kind."""
        try:
            raise error
        except kind:
            return True
        except Exception:
            return False
