"""DOC.md [3] and the interface's section holesleft/errors.py."""

import inspect
import unittest

from holesleft import errors

WITHOUT_FIELDS = [
    "InvalidScheme", "InvalidHouses", "InvalidSize", "InvalidNumber", "InvalidDigits", "InvalidIndex",
    "InvalidRule", "InvalidBudget", "InvalidFlag", "InvalidWish", "InvalidWishes", "InvalidLooks", "InvalidHouse",
    "InvalidEvent", "InvalidCommand", "OpenDeed", "NoDeed", "NothingToUndo",
]
FIELDS = {
    "InvalidWeaving": "index", "InvalidNumbers": "index", "NotABook": "index", "Unseen": "index",
    "TooFewHouses": "least", "TooLong": "limit", "Refused": "amount", "InvalidText": "word",
}


class ErrorsTest(unittest.TestCase):
    def test_the_file_defines_just_these_classes(self):
        found = [name for name, value in vars(errors).items() if inspect.isclass(value)]
        self.assertEqual(sorted(found), sorted(["HolesError"] + WITHOUT_FIELDS + list(FIELDS)))
        for name in found:
            self.assertEqual(getattr(errors, name).__module__, "holesleft.errors")

    def test_the_base_is_a_value_error(self):
        self.assertEqual(errors.HolesError.__bases__, (ValueError,))

    def test_each_error_is_a_direct_subclass_of_the_base(self):
        for name in WITHOUT_FIELDS + list(FIELDS):
            self.assertEqual(getattr(errors, name).__bases__, (errors.HolesError,), name)

    def test_an_error_without_fields_takes_one_string(self):
        for name in ["HolesError"] + WITHOUT_FIELDS:
            with self.assertRaises(ValueError) as caught:
                raise getattr(errors, name)("some words")
            self.assertEqual(str(caught.exception), "some words", name)

    def test_an_error_with_a_field_stores_it(self):
        for name, field in FIELDS.items():
            for value in [0, 3, 800, 10 ** 40, None]:
                by_place = getattr(errors, name)(value)
                by_name = getattr(errors, name)(**{field: value})
                self.assertEqual(vars(by_place), {field: value}, name)
                self.assertEqual(vars(by_name), {field: value}, name)
                self.assertIsInstance(str(by_place), str)

    def test_an_error_with_a_field_takes_just_this_one(self):
        for name, field in FIELDS.items():
            self.assertEqual(list(inspect.signature(getattr(errors, name)).parameters), [field], name)
            self.assertIn("__init__", vars(getattr(errors, name)), name)
            with self.assertRaises(TypeError):
                getattr(errors, name)()
            with self.assertRaises(TypeError):
                getattr(errors, name)(1, 2)


if __name__ == "__main__":
    unittest.main()
