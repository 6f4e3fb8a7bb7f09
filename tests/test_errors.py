"""Point 3: the error classes."""

import unittest

from tightranges import errors

NAMES = [
    "InvalidRange", "InvalidName", "InvalidSystem", "InvalidRule", "UnknownName",
    "InvalidNumber", "InvalidMove", "NothingToUndo", "Unreadable",
]
CLASSES = [getattr(errors, name) for name in NAMES]
ALL = [errors.RangeError] + CLASSES
VALUES = [0, -1, 10 ** 32, "x", "", None, (5, 3), [1, [2]], {"x": 1}]


class Errors(unittest.TestCase):
    def test_value_by_position(self):
        for one in ALL:
            for value in VALUES:
                self.assertIs(one(value).value, value, one)

    def test_value_by_name(self):
        for one in ALL:
            for value in VALUES:
                self.assertIs(one(value=value).value, value, one)

    def test_value_of_a_raised_error(self):
        for one in ALL:
            with self.assertRaises(one) as caught:
                raise one(value=7)
            self.assertEqual(caught.exception.value, 7)

    def test_exactly_one_argument(self):
        for one in ALL:
            for wrong in [(), (1, 2)]:
                with self.assertRaises(TypeError):
                    one(*wrong)

    def test_one_base_class(self):
        self.assertEqual(errors.RangeError.__bases__, (ValueError,))
        for one in CLASSES:
            self.assertEqual(one.__bases__, (errors.RangeError,), one)

    def test_no_other_subclasses(self):
        for one in CLASSES:
            for other in CLASSES:
                self.assertEqual(issubclass(one, other), one is other, (one, other))
            self.assertFalse(issubclass(errors.RangeError, one))

    def test_defined_in_errors_under_their_names(self):
        for name in ["RangeError"] + NAMES:
            one = getattr(errors, name)
            self.assertEqual((one.__name__, one.__module__), (name, "tightranges.errors"))

    def test_no_exception_class_more(self):
        found = [one for one in vars(errors).values() if isinstance(one, type) and issubclass(one, Exception)]
        self.assertEqual(sorted(one.__name__ for one in found), sorted(["RangeError"] + NAMES))


if __name__ == "__main__":
    unittest.main()
