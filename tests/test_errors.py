"""[4], [11]: the errors."""

import inspect
import unittest

from tests.helpers import any_values
from unwrittenrow import errors

FIELDS = {
    "Wrong": ["place"], "NoText": ["line"], "NoRow": [], "TooClose": ["name"], "TooMany": ["most"],
    "Crossing": ["fact"], "NotThere": ["thing"], "Nothing": [], "NoCommand": [],
}


class Errors(unittest.TestCase):
    def test_they_are_all_there_and_no_others(self):
        found = [
            name for name, thing in vars(errors).items()
            if isinstance(thing, type) and thing.__module__ == errors.__name__
        ]
        self.assertEqual(sorted(found), sorted([*FIELDS, "RowError"]))

    def test_each_is_under_row_error_and_under_no_other(self):
        self.assertEqual(errors.RowError.__bases__, (ValueError,))
        for name in FIELDS:
            with self.subTest(name=name):
                kind = getattr(errors, name)
                self.assertTrue(issubclass(kind, errors.RowError))
                for other in FIELDS:
                    self.assertEqual(issubclass(kind, getattr(errors, other)), name == other)

    def test_the_signatures_are_those_of_the_interface(self):
        for name, fields in FIELDS.items():
            with self.subTest(name=name):
                told = inspect.signature(getattr(errors, name).__init__).parameters
                self.assertEqual(list(told), ["self", *fields])

    def test_they_keep_the_very_objects(self):
        for name, fields in FIELDS.items():
            for thing in any_values():
                with self.subTest(name=name, thing=repr(thing)[:40]):
                    before = repr(thing)
                    error = getattr(errors, name)(*[thing for _ in fields])
                    for field in fields:
                        self.assertIs(getattr(error, field), thing)
                    self.assertEqual(repr(thing), before)
                    self.assertIsInstance(str(error), str)

    def test_a_list_is_not_copied(self):
        held = [1]
        error = errors.Crossing(held)
        held.append(2)
        self.assertEqual(error.fact, [1, 2])

    def test_they_are_raised_and_caught_as_value_errors(self):
        for name, fields in FIELDS.items():
            with self.subTest(name=name):
                with self.assertRaises(ValueError) as caught:
                    raise getattr(errors, name)(*[7 for _ in fields])
                self.assertEqual([getattr(caught.exception, field) for field in fields], [7 for _ in fields])

    def test_a_number_of_arguments_that_is_not_listed_is_refused(self):
        for name, fields in FIELDS.items():
            with self.subTest(name=name), self.assertRaises(TypeError):
                getattr(errors, name)(*[7 for _ in fields], 7)


if __name__ == "__main__":
    unittest.main()
