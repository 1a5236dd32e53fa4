"""The errors of the interface: where they stand, and their fields."""

import inspect
import unittest

from feedreader import errors
from feedreader.errors import FeedError

FIELDS = {
    "BadMoment": ("given",), "BadZone": ("given",), "BadDate": ("given",), "BadAddress": ("given",),
    "BadEntry": ("field",), "BadPage": ("field", "number"), "BadText": ("line", "column"),
    "BadNumber": ("field",), "NoEntry": ("given",), "Taken": ("given",), "TooMany": ("what",),
    "BadWorld": ("number",), "BadTrouble": ("number",), "BadThing": ("given",), "BadShelf": ("number",),
    "NoSighting": ("number",), "BadDevice": ("given",), "BadLibrary": ("number",), "Torn": ("stamp",),
    "NoItem": ("given",), "BadFolder": ("given",), "NoNote": ("stamp",), "BadQuery": ("path",),
    "BadWindow": ("number",), "BadOffer": ("number",), "BadLog": ("number",), "NoAnswer": ("number",),
    "BadVector": ("given",), "BadBundle": ("number",), "Gap": ("device",),
}
VALUES = (("told", 3), (None, None), ((1, "a"), ()), (7, [1]))


class ErrorTest(unittest.TestCase):
    def test_the_classes_are_those_of_the_interface(self):
        found = {name for name, value in vars(errors).items() if inspect.isclass(value)}
        self.assertEqual(found, set(FIELDS) | {"FeedError"})

    def test_each_class_is_directly_under_feed_error(self):
        self.assertEqual(FeedError.__bases__, (ValueError,))
        for name in FIELDS:
            self.assertEqual(getattr(errors, name).__bases__, (FeedError,), name)
            self.assertEqual(getattr(errors, name).__module__, "feedreader.errors", name)

    def test_fields_by_position_and_by_name(self):
        for name, fields in FIELDS.items():
            for row in VALUES:
                values = row[:len(fields)]
                for error in (getattr(errors, name)(*values), getattr(errors, name)(**dict(zip(fields, values)))):
                    self.assertEqual(tuple(getattr(error, field) for field in fields), values, name)

    def test_the_second_field_by_name_behind_the_first_by_position(self):
        self.assertEqual(vars(errors.BadPage("entries", number=2)), {"field": "entries", "number": 2})
        self.assertEqual(vars(errors.BadText(column=4, line=2)), {"line": 2, "column": 4})

    def test_errors_take_no_other_fields(self):
        for name, fields in FIELDS.items():
            wrong = [lambda made: made(), lambda made: made(*range(len(fields) + 1)), lambda made: made(other=1)]
            for make in wrong:
                with self.assertRaises(TypeError):
                    make(getattr(errors, name))

    def test_errors_are_raised_and_caught(self):
        for name, fields in FIELDS.items():
            for caught in (getattr(errors, name), FeedError, ValueError):
                with self.assertRaises(caught):
                    raise getattr(errors, name)(*fields)
            self.assertIsInstance(str(getattr(errors, name)(*fields)), str)


if __name__ == "__main__":
    unittest.main()
