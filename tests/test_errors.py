"""Promise 1: the classes of errors."""

import unittest

from grownrows import errors
from grownrows.errors import GrowthError

NAMES = [
    "InvalidPrime", "InvalidTerm", "InvalidRow", "InvalidNumber", "InvalidValue", "InvalidStretch", "InvalidSeen",
    "UnlikePrimes", "TooFar", "NothingToUndo", "Unreadable",
]
CLASSES = [GrowthError] + [getattr(errors, name) for name in NAMES]


class ErrorsTest(unittest.TestCase):

    def test_every_class_keeps_the_thing_itself(self):
        things = [None, 0, -1, 10 ** 31, "", "0=1", (3, 2), [], [(0, 1)], {"a": []}, object(), ValueError("x")]
        for error_class in CLASSES:
            for thing in things:
                with self.subTest(error_class=error_class, thing=thing):
                    self.assertIs(error_class(thing).value, thing)
                    self.assertIs(error_class(value=thing).value, thing)

    def test_every_class_takes_exactly_one_argument(self):
        for error_class in CLASSES:
            with self.subTest(error_class=error_class):
                self.assertRaises(TypeError, error_class)
                self.assertRaises(TypeError, error_class, 1, 2)
                self.assertRaises(TypeError, error_class, 1, value=2)

    def test_bases(self):
        self.assertEqual(GrowthError.__bases__, (ValueError,))
        for error_class in CLASSES[1:]:
            with self.subTest(error_class=error_class):
                self.assertEqual(error_class.__bases__, (GrowthError,))

    def test_an_error_is_of_no_other_class(self):
        for error_class in CLASSES[1:]:
            for by_name in (False, True):
                error = error_class(value=7) if by_name else error_class(7)
                with self.subTest(error_class=error_class, by_name=by_name):
                    self.assertIsInstance(error, ValueError)
                    self.assertEqual([one for one in CLASSES if isinstance(error, one)], [GrowthError, error_class])

    def test_an_error_is_raised_and_caught_by_each_of_its_classes(self):
        for error_class in CLASSES:
            for caught in (error_class, GrowthError, ValueError):
                with self.subTest(error_class=error_class, caught=caught):
                    with self.assertRaises(caught) as met:
                        raise error_class((1, 2))
                    self.assertEqual(met.exception.value, (1, 2))

    def test_classes_are_named_and_defined_in_their_file(self):
        for name, error_class in zip(["GrowthError"] + NAMES, CLASSES):
            with self.subTest(name=name):
                self.assertEqual((error_class.__module__, error_class.__name__), ("grownrows.errors", name))


if __name__ == "__main__":
    unittest.main()
