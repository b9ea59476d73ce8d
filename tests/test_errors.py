"""The errors of the interface."""

import unittest

from anychain import errors
from tests.helpers import ERRORS

NAMES = (
    "InvalidBook", "BadStep", "InvalidMachine", "InvalidNet", "InvalidTranslator", "InvalidSeal", "Mismatch",
    "TooLong", "Confused", "NotSettling", "Endless", "BadLetter", "UnknownName", "NoHistory",
)


class Errors(unittest.TestCase):
    def test_each_error_has_the_base_class(self):
        self.assertEqual(errors.AnychainError.__bases__, (ValueError,))
        for name in NAMES:
            self.assertEqual(getattr(errors, name).__bases__, (errors.AnychainError,), name)
            self.assertEqual(getattr(errors, name).__module__, "anychain.errors")
        self.assertEqual({error.__name__ for error in ERRORS}, {"AnychainError", *NAMES})

    def test_only_bad_letter_has_a_field(self):
        for name in NAMES:
            error = getattr(errors, name)("wrong")
            self.assertEqual(str(error), "wrong")
            self.assertEqual(set(vars(error)), {"place"} if name == "BadLetter" else set())

    def test_bad_letter_tells_the_place(self):
        self.assertEqual(errors.BadLetter("wrong", 3).place, 3)
        self.assertIs(type(errors.BadLetter("wrong").place), int)
        with self.assertRaises(ValueError):
            raise errors.BadLetter("wrong", 5)


if __name__ == "__main__":
    unittest.main()
