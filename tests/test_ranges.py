"""Point 4 and the section tightranges/ranges.py: ranges, compared with the integers themselves."""

import unittest

from tightranges.errors import InvalidRange
from tightranges.ranges import common, joined, lies_within, meets, stepped

WINDOW = range(-40, 41)
ENDS = [None, -9, -4, -2, -1, 0, 1, 2, 3, 8]
RANGES = [None] + [
    (low, high) for low in ENDS for high in ENDS if low is None or high is None or low <= high
]
FACTORS = [factor for factor in range(-9, 10) if factor != 0]
FAR = [10 ** 31, -(10 ** 31), 10 ** 31 - 3, 12345678901234567890123456789, -(2 ** 100), 10 ** 40]
UPSIDE_DOWN = [(1, 0), (5, 3), (0, -1), (10 ** 31, 10 ** 31 - 1), (-(10 ** 31) + 1, -(10 ** 31))]
OF_TWO = [meets, lies_within, common, joined]


def members(one, window=WINDOW):
    if one is None:
        return set()
    low, high = one
    return {v for v in window if (low is None or low <= v) and (high is None or v <= high)}


def least_range(found):
    """The least range with these integers of the window; at its ends it goes on for ever."""
    if not found:
        return None
    low, high = min(found), max(found)
    return (None if low == min(WINDOW) else low, None if high == max(WINDOW) else high)


def far_out(one, far):
    return one if one is None else tuple(None if bound is None else bound + far for bound in one)


def expected_of_two(one, other):
    first, second = members(one), members(other)
    return [bool(first & second), first <= second, least_range(first & second), least_range(first | second)]


class Examples(unittest.TestCase):
    def test_of_the_document(self):
        told = [
            meets((0, 5), (5, None)), common((None, 7), (3, None)), common((0, 1), (2, 3)),
            joined((0, 1), (9, 9)), joined(None, (2, None)), lies_within(None, (1, 1)),
            stepped((2, 4), -3, 1), stepped((None, 4), 2, 0),
        ]
        self.assertEqual(told, [True, (3, 7), None, (0, 9), (2, None), True, (-11, -5), (None, 8)])


class OfTwo(unittest.TestCase):
    def test_near_zero(self):
        for one in RANGES:
            for other in RANGES:
                told = [function(one, other) for function in OF_TWO]
                self.assertEqual(told, expected_of_two(one, other), (one, other))

    def test_far_out(self):
        for far in FAR:
            for one in RANGES:
                for other in RANGES:
                    meet, within, both, least = expected_of_two(one, other)
                    told = [function(far_out(one, far), far_out(other, far)) for function in OF_TWO]
                    self.assertEqual(told, [meet, within, far_out(both, far), far_out(least, far)], (one, other, far))

    def test_far_apart(self):
        far = 10 ** 31
        self.assertEqual(joined((-far, -far), (far, far)), (-far, far))
        self.assertEqual(common((-far, far), (far, None)), (far, far))
        self.assertFalse(meets((-far, far - 1), (far, None)))
        self.assertTrue(lies_within((-far, far), (-far - 1, far + 1)))
        self.assertFalse(lies_within((-far, far + 1), (-far, far)))

    def test_neighbours_do_not_meet(self):
        for far in [0] + FAR:
            self.assertFalse(meets((far - 2, far), (far + 1, far + 2)))
            self.assertFalse(meets((far + 1, None), (None, far)))
            self.assertIsNone(common((None, far), (far + 1, far + 1)))
            self.assertEqual(joined((None, far), (far + 1, far + 1)), (None, far + 1))

    def test_empty_ranges(self):
        for one in RANGES:
            self.assertIs(meets(None, one), False)
            self.assertIs(meets(one, None), False)
            self.assertIs(lies_within(None, one), True)
            self.assertIs(lies_within(one, None), one is None)
            self.assertIsNone(common(None, one))
            self.assertEqual([joined(None, one), joined(one, None)], [one, one])

    def test_true_and_false_themselves(self):
        for function in [meets, lies_within]:
            self.assertIs(function((0, 1), (0, 1)), True)
            self.assertIs(function((0, 1), (2, 3)), False)

    def test_by_name(self):
        self.assertIs(meets(other=(0, None), one=(None, -1)), False)
        self.assertIs(lies_within(other=(0, None), one=(1, 2)), True)
        self.assertIs(lies_within(one=(0, None), other=(1, 2)), False)
        self.assertEqual(common(other=(0, None), one=(-3, 2)), (0, 2))
        self.assertEqual(joined(other=(0, None), one=(-3, 2)), (-3, None))


class Stepped(unittest.TestCase):
    def expected(self, one, factor, add):
        """An end that moves when the window grows is no bound."""
        near = [factor * v + add for v in members(one, range(-40, 41))]
        more = [factor * v + add for v in members(one, range(-50, 51))]
        if not near:
            return None
        return (min(near) if min(near) == min(more) else None, max(near) if max(near) == max(more) else None)

    def test_near_zero(self):
        for one in RANGES:
            for factor in FACTORS:
                for add in [0, 1, -1, 7, -30]:
                    told = stepped(one, factor, add)
                    self.assertEqual(told, self.expected(one, factor, add), (one, factor, add))

    def test_far_add(self):
        for one in RANGES:
            for factor in FACTORS:
                for add in FAR:
                    told = stepped(one, factor, add)
                    self.assertEqual(told, self.expected(one, factor, add), (one, factor, add))

    def test_far_range(self):
        for one in RANGES:
            for factor in FACTORS:
                for far in FAR:
                    told = stepped(far_out(one, far), factor, 5)
                    self.assertEqual(told, self.expected(one, factor, 5 + factor * far), (one, factor, far))

    def test_by_name(self):
        self.assertEqual(stepped(add=1, factor=-3, one=(2, None)), (None, -5))


class RangeCheck(unittest.TestCase):
    def refused(self, wrong, function, *arguments):
        with self.assertRaises(InvalidRange) as caught:
            function(*arguments)
        self.assertEqual(caught.exception.value, wrong)

    def test_first_range(self):
        for wrong in UPSIDE_DOWN:
            for right in RANGES:
                for function in OF_TWO:
                    self.refused(wrong, function, wrong, right)

    def test_second_range(self):
        for wrong in UPSIDE_DOWN:
            for right in RANGES:
                for function in OF_TWO:
                    self.refused(wrong, function, right, wrong)

    def test_both_ranges(self):
        for wrong in UPSIDE_DOWN:
            for other in UPSIDE_DOWN:
                for function in OF_TWO:
                    self.refused(wrong, function, wrong, other)

    def test_by_name_the_first_argument_is_first(self):
        for function in OF_TWO:
            with self.assertRaises(InvalidRange) as caught:
                function(other=(2, 1), one=(9, 8))
            self.assertEqual(caught.exception.value, (9, 8))

    def test_stepped(self):
        for wrong in UPSIDE_DOWN:
            for factor in FACTORS:
                self.refused(wrong, stepped, wrong, factor, 0)

    def test_one_integer_and_missing_bounds_are_right(self):
        for one in [(0, 0), (-7, -7), (None, -7), (7, None), (None, None)]:
            self.assertEqual([common(one, one), joined(one, one), stepped(one, 1, 0)], [one, one, one])


if __name__ == "__main__":
    unittest.main()
