"""Point 1 and the heading meltlibrary/errors.py: the error classes and their fields."""

import inspect
import unittest

from meltlibrary import errors

FIELDS = {
    "BadLibrary": ["part"],
    "BadMost": [],
    "BadDays": ["index"],
    "BadTablet": [],
    "BadNumber": [],
    "NoScheme": [],
    "BadStep": [],
    "TooMany": ["most"],
    "BadString": [],
    "BadLine": ["line", "word"],
    "BadShown": [],
}


class ErrorsTest(unittest.TestCase):
    def test_base_class(self):
        self.assertEqual(errors.LibraryError.__bases__, (ValueError,))

    def test_each_is_a_direct_subclass_in_this_file(self):
        for name in FIELDS:
            kind = getattr(errors, name)
            self.assertEqual(kind.__bases__, (errors.LibraryError,), name)
            self.assertEqual(kind.__module__, "meltlibrary.errors", name)

    def test_there_are_no_others(self):
        kinds = [name for name, kind in vars(errors).items() if inspect.isclass(kind)]
        self.assertEqual(sorted(kinds), sorted([*FIELDS, "LibraryError"]))

    def test_fields_are_set_when_an_error_is_created(self):
        for name, fields in FIELDS.items():
            kind = getattr(errors, name)
            values = [f"value of {field}" for field in fields]
            wanted = dict(zip(fields, values))
            self.assertEqual(vars(kind(*values)), wanted, name)
            self.assertEqual(vars(kind(**wanted)), wanted, name)

    def test_fields_may_be_none_or_numbers(self):
        self.assertIsNone(errors.BadDays(None).index)
        self.assertEqual(errors.BadDays(0).index, 0)
        self.assertEqual(errors.TooMany(200000).most, 200000)
        told = errors.BadLine(3, 1)
        self.assertEqual((told.line, told.word), (3, 1))

    def test_each_is_caught_as_a_value_error_and_has_words(self):
        for name, fields in FIELDS.items():
            kind = getattr(errors, name)
            with self.assertRaises(ValueError):
                raise kind(*fields)
            for field in fields:
                self.assertIn(field, str(kind(*fields)))


if __name__ == "__main__":
    unittest.main()
