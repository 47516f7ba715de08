"""The errors of the interface, and how they stand under each other."""

import unittest

from manytimes import errors
from manytimes.errors import BadPair, BadPairs, BadRow, BadTaking, TimesError

KINDS = (BadPair, BadPairs, BadTaking, BadRow)


class ErrorsTest(unittest.TestCase):
    def test_times_error_is_straight_under_value_error(self):
        self.assertEqual(TimesError.__bases__, (ValueError,))

    def test_each_kind_is_straight_under_times_error(self):
        for kind in KINDS:
            with self.subTest(kind=kind.__name__):
                self.assertEqual(kind.__bases__, (TimesError,))

    def test_names_and_home(self):
        for name in ("TimesError", "BadPair", "BadPairs", "BadTaking", "BadRow"):
            with self.subTest(name=name):
                kind = getattr(errors, name)
                self.assertEqual(kind.__name__, name)
                self.assertEqual(kind.__module__, "manytimes.errors")

    def test_no_kind_is_caught_as_another(self):
        for raised in KINDS:
            for other in KINDS:
                with self.subTest(raised=raised.__name__, other=other.__name__):
                    self.assertEqual(issubclass(raised, other), raised == other)

    def test_each_can_be_raised_and_caught(self):
        for kind in (TimesError, *KINDS):
            for caught in (kind, TimesError, ValueError):
                with self.subTest(kind=kind.__name__, caught=caught.__name__):
                    with self.assertRaises(caught):
                        raise kind("refused")


if __name__ == "__main__":
    unittest.main()
