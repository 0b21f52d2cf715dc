"""Tests of the error classes [3]."""

import unittest

from fitsizes import errors

NAMES = ["InvalidLine", "InvalidPipeline", "InvalidNumber", "InvalidRow", "InvalidCell",
         "InvalidPlaces", "NotFitting", "NotSteady", "NothingToUndo", "Unreadable"]


class ErrorTest(unittest.TestCase):

    def classes(self):
        return [getattr(errors, name) for name in ["SizeError"] + NAMES]

    def test_value_is_the_argument_itself(self):
        for kind in self.classes():
            for value in [None, 0, -7, 10 ** 33, "a text", [1, 1], (2, "a"), {}]:
                with self.subTest(kind=kind.__name__, value=value):
                    self.assertIs(kind(value).value, value)
                    self.assertIs(kind(value=value).value, value)

    def test_takes_exactly_one_argument(self):
        for kind in self.classes():
            with self.subTest(kind=kind.__name__):
                self.assertRaises(TypeError, kind)
                self.assertRaises(TypeError, kind, 1, 2)
                self.assertRaises(TypeError, kind, number=1)

    def test_bases(self):
        self.assertEqual(errors.SizeError.__bases__, (ValueError,))
        for name in NAMES:
            with self.subTest(name=name):
                self.assertEqual(getattr(errors, name).__bases__, (errors.SizeError,))

    def test_none_is_a_subclass_of_another(self):
        for one in NAMES:
            for other in NAMES:
                with self.subTest(one=one, other=other):
                    self.assertEqual(issubclass(getattr(errors, one), getattr(errors, other)), one == other)

    def test_names_and_file(self):
        for name in ["SizeError"] + NAMES:
            with self.subTest(name=name):
                self.assertEqual(getattr(errors, name).__name__, name)
                self.assertEqual(getattr(errors, name).__module__, "fitsizes.errors")

    def test_can_be_raised_and_caught_as_value_errors(self):
        for kind in self.classes():
            for base in (kind, errors.SizeError, ValueError):
                with self.subTest(kind=kind.__name__, base=base.__name__):
                    with self.assertRaises(base) as caught:
                        raise kind(value=5)
                    self.assertIs(type(caught.exception), kind)
                    self.assertEqual(caught.exception.value, 5)


if __name__ == "__main__":
    unittest.main()
