"""Point [15], and of point [3] what it says of the error classes."""

import unittest

from crosshitch import errors
from tests.helpers import ErrorChecks

WITH_FIELD = {
    "InvalidLayout": "index", "InvalidRows": "index", "InvalidRings": "index", "InvalidOpens": "index",
    "InvalidText": "part", "TooMany": "limit", "Farther": "moves",
}
WITH_STRING = [
    "InvalidPieces", "InvalidEnd", "InvalidMove", "InvalidMoves", "InvalidSight", "InvalidNumber", "InvalidCommand",
    "NotBetween", "MixedWays", "NotFitting", "Clash", "NothingToUndo",
]


class ErrorClasses(ErrorChecks, unittest.TestCase):
    def test_base(self):
        self.assertEqual(errors.HitchError.__bases__, (ValueError,))
        self.assertEqual(errors.HitchError.__module__, "crosshitch.errors")

    def test_each_class_derives_directly(self):
        for name in [*WITH_FIELD, *WITH_STRING]:
            with self.subTest(name=name):
                error = getattr(errors, name)
                self.assertEqual(error.__bases__, (errors.HitchError,))
                self.assertEqual(error.__name__, name)
                self.assertEqual(error.__module__, "crosshitch.errors")

    def test_fields(self):
        for name, field in WITH_FIELD.items():
            for value in [0, 1, 7, 500, None]:
                with self.subTest(name=name, value=value):
                    error = getattr(errors, name)(value)
                    self.assertIs(getattr(error, field), value)
                    self.assertIsInstance(str(error), str)

    def test_fields_belong_to_the_objects(self):
        for name, field in WITH_FIELD.items():
            one, other = getattr(errors, name)(3), getattr(errors, name)(4)
            self.assertEqual([getattr(one, field), getattr(other, field)], [3, 4])

    def test_with_one_string(self):
        for name in WITH_STRING:
            with self.subTest(name=name):
                error = getattr(errors, name)("told")
                self.assertEqual(error.args, ("told",))
                self.assertEqual(str(error), "told")

    def test_caught_as_value_error(self):
        for name in [*WITH_FIELD, *WITH_STRING]:
            error = getattr(errors, name)
            with self.subTest(name=name):
                with self.assertRaises(ValueError):
                    raise error(1 if name in WITH_FIELD else "told")
                with self.assertRaises(errors.HitchError):
                    raise error(1 if name in WITH_FIELD else "told")


if __name__ == "__main__":
    unittest.main()
