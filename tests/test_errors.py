"""The error classes: their places, their fields, and that they are what the document lists."""

import unittest

from carriedfields import errors
from carriedfields.errors import CarriedError

FIELDS = {
    "BadName": ("name",),
    "BadRow": ("at",),
    "BadMethod": ("part",),
    "BadCarry": ("part",),
    "BadKind": ("part",),
    "BadLibrary": ("at", "part"),
    "NoKind": ("name",),
    "BadText": ("at",),
    "NoMethod": ("name",),
    "BadCall": ("name",),
    "BadValue": ("at",),
    "NotNow": ("name",),
    "BadState": ("given",),
    "BadPassage": ("part",),
    "BadSaved": ("at",),
    "NoField": ("name",),
    "BadCallers": ("part",),
    "UnlikeFaces": (),
    "BadJoint": ("given",),
    "BadStep": ("given",),
    "TooMany": ("what",),
    "NoGood": (),
}
VALUES = (0, -1, 10 ** 99, None, True, "put", "", (), [1, [2]], ((1, 2), [3]), CarriedError("x"))


class ErrorsTest(unittest.TestCase):
    def test_carried_error(self):
        self.assertEqual((ValueError,), CarriedError.__bases__)
        self.assertEqual("carriedfields.errors", CarriedError.__module__)

    def test_all_classes_and_no_others(self):
        classes = [name for name, value in vars(errors).items() if isinstance(value, type)]
        self.assertEqual(["CarriedError", *FIELDS], classes)

    def test_each_is_directly_under_carried_error(self):
        for name in FIELDS:
            error = getattr(errors, name)
            self.assertEqual((CarriedError,), error.__bases__)
            self.assertEqual("carriedfields.errors", error.__module__)
            for other in FIELDS:
                self.assertEqual(name == other, issubclass(error, getattr(errors, other)))

    def test_fields_by_position(self):
        for name, fields in FIELDS.items():
            for value in VALUES:
                given = [value, "second"][:len(fields)]
                error = getattr(errors, name)(*given)
                self.assertEqual(list(fields), list(vars(error)))
                for field, want in zip(fields, given):
                    self.assertIs(want, getattr(error, field))

    def test_fields_by_name(self):
        for name, fields in FIELDS.items():
            for value in VALUES:
                given = {field: (field, value) for field in fields}
                self.assertEqual(given, vars(getattr(errors, name)(**given)))

    def test_wrong_numbers_of_fields(self):
        for name, fields in FIELDS.items():
            with self.assertRaises(TypeError):
                getattr(errors, name)(*range(len(fields) + 1))
            if fields:
                with self.assertRaises(TypeError):
                    getattr(errors, name)(*range(len(fields) - 1))

    def test_raised_and_caught(self):
        for name, fields in FIELDS.items():
            for kind in (getattr(errors, name), CarriedError, ValueError):
                with self.assertRaises(kind) as caught:
                    raise getattr(errors, name)(*["a", "b"][:len(fields)])
                self.assertIs(getattr(errors, name), caught.exception.__class__)
                self.assertTrue(str(caught.exception))

    def test_equal_to_nothing_else(self):
        for name, fields in FIELDS.items():
            error = getattr(errors, name)(*[1, 2][:len(fields)])
            for other in (None, 1, (1,), "1", CarriedError(), ValueError(1)):
                self.assertFalse(error == other)
                self.assertTrue(error != other)


if __name__ == "__main__":
    unittest.main()
