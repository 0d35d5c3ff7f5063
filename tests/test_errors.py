"""The error classes of the interface."""

import unittest

from pressrelease import errors
from tests.support import HUGE, NO_NUMBERS

FIELDS = {
    "BadRow": "index",
    "TooLarge": "bound",
    "LastButton": None,
    "BadPanel": "error",
    "BadState": "value",
    "Busy": None,
    "TooManyEdits": None,
    "SameButton": "value",
    "NoChange": None,
    "NothingToUndo": None,
    "BadEdits": None,
    "BadEdit": "index",
    "Rejected": "index",
    "Locked": None,
    "BadText": "index",
    "NoButton": "value",
    "NoVersion": "value",
}
LOOKUPS = ("NoButton", "NoVersion")
VALUES = NO_NUMBERS + (
    0, 1, -1, 10, HUGE, (0, "itself"), (None, "panel"), [1, [2, (None, True)]],
    {"a": [{"b": (1,)}]}, "x" * 2000,
)


def listed(name):
    return getattr(errors, name)


class ErrorsTest(unittest.TestCase):
    def test_defined_in_errors(self):
        for name in ("PanelError", *FIELDS):
            self.assertEqual(listed(name).__module__, "pressrelease.errors")
            self.assertEqual(listed(name).__name__, name)

    def test_fields_are_the_very_values(self):
        for name, field in FIELDS.items():
            if field is None:
                continue
            for value in VALUES:
                error = listed(name)(value)
                self.assertIs(getattr(error, field), value)
                self.assertEqual(list(vars(error)), [field])

    def test_field_changes_with_its_error_only(self):
        for name, field in FIELDS.items():
            if field is not None:
                one, other = listed(name)(1), listed(name)(2)
                self.assertEqual((getattr(one, field), getattr(other, field)), (1, 2))

    def test_those_without_fields(self):
        for name, field in FIELDS.items():
            if field is None:
                self.assertEqual(vars(listed(name)()), {})

    def test_panel_error_is_the_base(self):
        self.assertTrue(issubclass(errors.PanelError, ValueError))
        self.assertFalse(issubclass(errors.PanelError, LookupError))
        for name in FIELDS:
            if name not in LOOKUPS:
                self.assertTrue(issubclass(listed(name), errors.PanelError), name)
                self.assertTrue(issubclass(listed(name), ValueError), name)
                self.assertFalse(issubclass(listed(name), LookupError), name)

    def test_lookups_are_no_value_errors(self):
        for name in LOOKUPS:
            self.assertTrue(issubclass(listed(name), LookupError), name)
            self.assertFalse(issubclass(listed(name), ValueError), name)
            self.assertFalse(issubclass(listed(name), errors.PanelError), name)
            self.assertFalse(issubclass(listed(name), (KeyError, IndexError)), name)

    def test_none_derives_from_another(self):
        for one in FIELDS:
            for other in FIELDS:
                if one != other:
                    self.assertIsNot(listed(one), listed(other))
                    self.assertFalse(issubclass(listed(one), listed(other)), (one, other))

    def test_each_can_be_raised_and_shown(self):
        for name, field in FIELDS.items():
            for value in VALUES:
                error = listed(name)() if field is None else listed(name)(value)
                self.assertIsInstance(str(error), str)
                self.assertIsInstance(repr(error), str)
                with self.assertRaises(LookupError if name in LOOKUPS else ValueError):
                    raise error
