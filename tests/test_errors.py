"""The errors of the interface."""

import unittest

from homereads import errors
from homereads.errors import Damaged, HomeError, InvalidLine, InvalidPack, NotAnIndex, Truncated


class ErrorsTest(unittest.TestCase):
    def test_base_class(self):
        self.assertTrue(issubclass(HomeError, ValueError))
        for error in (InvalidLine, InvalidPack, NotAnIndex, Truncated, Damaged):
            with self.subTest(error=error.__name__):
                self.assertEqual(error.__bases__, (HomeError,))

    def test_each_is_defined_in_its_file(self):
        for error in (HomeError, InvalidLine, InvalidPack, NotAnIndex, Truncated, Damaged):
            with self.subTest(error=error.__name__):
                self.assertEqual(error.__module__, errors.__name__)

    def test_invalid_line_has_its_attributes(self):
        error = InvalidLine(7, 12)
        self.assertEqual((error.line, error.column), (7, 12))
        error = InvalidLine(column=3, line=0)
        self.assertEqual((error.line, error.column), (0, 3))

    def test_each_can_be_raised_and_caught(self):
        for error in (HomeError, InvalidPack, NotAnIndex, Truncated, Damaged):
            with self.subTest(error=error.__name__), self.assertRaises(error):
                raise error()
        with self.assertRaises(HomeError):
            raise InvalidLine(0, 0)


if __name__ == "__main__":
    unittest.main()
