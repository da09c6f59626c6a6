"""The heading strokes/errors.py of the interface."""

import unittest

from strokes import errors
from strokes.errors import InvalidText, NotDone, NothingToUndo, StrokeError, TooMany, UnknownName

FIELDS = {
    "BadPicture": [],
    "BadLine": [],
    "BadStrokes": [],
    "BadNumber": [],
    "NotText": [],
    "InvalidText": ["place"],
    "UnknownName": ["name"],
    "WrongCount": ["name"],
    "MayBeUnset": ["name"],
    "BadCode": [],
    "BadEffect": [],
    "BadGoals": [],
    "OtherBoard": [],
    "NotBlind": [],
    "NotDone": ["end"],
    "BadLog": [],
    "BadSite": [],
    "TooGreat": ["most"],
    "TooMany": ["most"],
    "NothingToUndo": [],
}


class TheErrors(unittest.TestCase):
    def test_the_base_class_is_a_direct_subclass_of_value_error(self):
        self.assertEqual(StrokeError.__bases__, (ValueError,))
        self.assertEqual(StrokeError.__module__, "strokes.errors")

    def test_there_are_twenty_errors_and_their_base_class(self):
        found = [name for name, value in vars(errors).items() if isinstance(value, type)]
        self.assertEqual(sorted(found), sorted([*FIELDS, "StrokeError"]))
        self.assertEqual(len(FIELDS), 20)

    def test_each_error_is_a_direct_subclass_defined_in_the_file(self):
        for name in FIELDS:
            with self.subTest(name):
                error = getattr(errors, name)
                self.assertEqual(error.__bases__, (StrokeError,))
                self.assertEqual(error.__name__, name)
                self.assertEqual(error.__module__, "strokes.errors")

    def test_each_field_is_set_under_its_name(self):
        for name, fields in FIELDS.items():
            for value in (5, "x", "divide"):
                with self.subTest(name, value=value):
                    error = getattr(errors, name)
                    made = error(*[value for _ in fields])
                    named = error(**{field: value for field in fields})
                    expected = {field: value for field in fields}
                    self.assertEqual(vars(made), expected)
                    self.assertEqual(vars(named), expected)

    def test_a_field_has_to_be_given(self):
        for name, fields in FIELDS.items():
            if fields:
                with self.subTest(name):
                    self.assertRaises(TypeError, getattr(errors, name))

    def test_fields_by_name(self):
        self.assertEqual(InvalidText(5).place, 5)
        self.assertEqual(UnknownName("f").name, "f")
        self.assertEqual(NotDone("limit").end, "limit")
        self.assertEqual(TooMany(500).most, 500)

    def test_errors_are_caught_as_what_they_derive_from(self):
        for caught in (NothingToUndo, StrokeError, ValueError):
            with self.subTest(caught.__name__), self.assertRaises(caught):
                raise NothingToUndo()


if __name__ == "__main__":
    unittest.main()
