"""Points 5, 7 and 10, and the section tightranges/limits.py."""

import unittest

from tests.making import made_systems
from tests.samples import FAR, busy
from tightranges.errors import InvalidRule, UnknownName
from tightranges.holdings import least_holding
from tightranges.limits import greatest_bound, greatest_high
from tightranges.systems import System

ALL = (None, None)


def climb():
    return System(["x"], [("set", "x", (0, 7), ()), ("step", "x", "x", 1, 3, (None, 100), ())])


def chain():
    """y follows x where x is from 10 on, and z where y is 50 or more."""
    return System(["x", "y", "z"], [
        ("set", "x", (-5, 0), ()),
        ("step", "y", "x", 2, 1, (10, None), ()),
        ("set", "z", (3, 4), (("y", (50, None)),)),
        ("step", "y", "x", -1, 0, (-FAR, 3), ()),
        ("set", "z", (None, 2), (("y", ALL),)),
        ("set", "x", (None, 1), (("z", (0, 0)), ("z", (9, 9)))),
    ])


def with_high(system, number, high):
    rules = system.rules
    rules[number] = (*rules[number][:-2], (rules[number][-2][0], high), rules[number][-1])
    return System(system.names, rules)


def keeps(system, number, name, limit, high):
    one = least_holding(with_high(system, number, high))[name]
    return one is None or (one[1] is not None and one[1] <= limit)


class Examples(unittest.TestCase):
    def test_of_the_document(self):
        told = [
            greatest_high(climb(), 0, "x", 150), greatest_high(climb(), 0, "x", 102),
            greatest_bound(climb(), 1, "x", 1000), greatest_bound(climb(), 1, "x", 6),
        ]
        self.assertEqual(told, [150, None, 997, None])


class LimitTest(unittest.TestCase):
    def is_greatest(self, system, number, name, limit, told):
        """What is told keeps the limit and is within the bounds; one more does not, or is not."""
        low = system.rules[number][-2][0]
        lowest = -FAR if low is None else low
        if told is None:
            self.assertTrue(lowest > FAR or not keeps(system, number, name, limit, lowest), (number, name, limit))
            return
        self.assertTrue(lowest <= told <= FAR)
        self.assertTrue(keeps(system, number, name, limit, told))
        self.assertTrue(told == FAR or not keeps(system, number, name, limit, told + 1))


class GreatestHigh(LimitTest):
    def test_limits(self):
        for limit, expected in [(103, 103), (104, 104), (102, None), (-FAR, None), (FAR, FAR), (FAR - 1, FAR - 1)]:
            self.assertEqual(greatest_high(climb(), 0, "x", limit), expected)
        self.assertEqual(greatest_high(climb(), 0, "x", 10 * FAR), FAR)

    def test_the_range_may_stay_empty(self):
        # From 10 on y is read from x, and from 25 on z gets its second set.
        self.assertEqual(greatest_high(chain(), 0, "z", 2), 24)
        self.assertEqual(greatest_high(chain(), 0, "z", 3), 24)
        self.assertEqual(greatest_high(chain(), 0, "z", 4), FAR)
        self.assertEqual(greatest_high(chain(), 0, "z", 1), None)
        self.assertEqual(greatest_high(chain().without([3]), 0, "y", -FAR), 9)
        self.assertEqual(greatest_high(chain(), 0, "y", 20), 9)
        self.assertEqual(greatest_high(chain(), 0, "y", 21), 10)

    def test_a_missing_high_keeps_no_limit(self):
        free = System(["x"], [("set", "x", (0, 7), ()), ("step", "x", "x", 2, -20, ALL, ())])
        for limit in [19, 20, 10 ** 60]:
            self.assertEqual(greatest_high(free, 0, "x", limit), min(limit, 20))

    def test_from_the_low_to_the_greatest_number(self):
        for low in [-FAR, -FAR + 1, 0, FAR - 1, FAR]:
            system = System(["x", "y"], [("set", "x", (low, low), ())])
            self.assertEqual(greatest_high(system, 0, "x", low), low)
            self.assertEqual(greatest_high(system, 0, "x", low - 1), None)
            self.assertEqual(greatest_high(system, 0, "x", FAR), FAR)
            self.assertEqual(greatest_high(system, 0, "y", -FAR), FAR)
        beyond = System(["x", "y"], [("set", "x", (FAR + 1, FAR + 1), ())])
        self.assertIsNone(greatest_high(beyond, 0, "y", 0))

    def test_the_high_that_the_set_has_counts_for_nothing(self):
        for high in [0, 7, 10 ** 20, FAR]:
            self.assertEqual(greatest_high(with_high(climb(), 0, high), 0, "x", 150), 150)

    def test_by_name(self):
        self.assertEqual(greatest_high(limit=150, name="x", number=0, system=climb()), 150)

    def test_errors(self):
        system = System(["x"], [
            ("set", "x", (0, None), ()), ("set", "x", (None, 0), ()), ("set", "x", ALL, ()),
            ("step", "x", "x", 1, 0, (0, 9), ()), ("set", "x", (0, 0), ()),
        ])
        for name in ["x", "z"]:
            for wrong in [0, 1, 2, 3, 5, -1, -5, FAR]:
                with self.assertRaises(InvalidRule) as caught:
                    greatest_high(system, wrong, name, 9)
                self.assertEqual(caught.exception.value, wrong)
        for wrong in ["z", "", "xx"]:
            with self.assertRaises(UnknownName) as caught:
                greatest_high(system, 4, wrong, 9)
            self.assertEqual(caught.exception.value, wrong)

    def test_made_systems(self):
        found = {None: 0, FAR: 0, 1: 0}
        for system in made_systems(150):
            before = system.rules
            ranges = least_holding(system)
            for number, rule in enumerate(before):
                if rule[0] == "set" and None not in rule[2]:
                    for limit in [-100, 1, 500, 10 ** 20]:
                        name = sorted(ranges)[(number + limit) % len(ranges)]
                        told = greatest_high(system, number, name, limit)
                        self.is_greatest(system, number, name, limit, told)
                        found[told if told in found else 1] += 1
            self.assertEqual(system.rules, before)
        self.assertGreater(min(found.values()), 10, found)


class GreatestBound(LimitTest):
    def test_limits(self):
        for limit, expected in [(7, 4), (8, 5), (FAR, FAR - 3), (FAR + 2, FAR - 1), (FAR + 3, FAR), (6, None)]:
            self.assertEqual(greatest_bound(climb(), 1, "x", limit), expected)

    def test_a_step_without_a_low(self):
        system = System(["x", "y"], [("set", "x", (None, 5), ()), ("step", "y", "x", 2, 1, (None, 0), ())])
        self.assertEqual(greatest_bound(system, 1, "y", 8), 3)
        self.assertEqual(greatest_bound(system, 1, "y", 11), FAR)
        self.assertEqual(greatest_bound(system, 1, "y", -2 * FAR + 1), -FAR)
        self.assertEqual(greatest_bound(system, 1, "y", -2 * FAR), None)

    def test_a_step_with_a_low(self):
        self.assertEqual(greatest_bound(chain(), 3, "y", FAR), FAR)
        # A low of x of -5 gives y a high of 5, whatever the high of within is.
        low = System(["x", "y"], [("set", "x", (-5, 0), ()), ("step", "y", "x", -1, 0, (-5, 3), ())])
        self.assertEqual(greatest_bound(low, 1, "y", 5), FAR)
        self.assertEqual(greatest_bound(low, 1, "y", 4), None)

    def test_the_range_may_be_empty(self):
        system = System(["x", "y"], [("set", "x", (4, 9), ()), ("step", "y", "x", 1, 0, (0, 99), ())])
        self.assertEqual(greatest_bound(system, 1, "y", 3), 3)
        self.assertEqual(greatest_bound(system, 1, "y", -FAR), 3)
        self.assertEqual(greatest_bound(system, 1, "y", 4), 4)
        self.assertEqual(greatest_bound(system, 1, "y", 9), FAR)

    def test_by_name(self):
        self.assertEqual(greatest_bound(limit=1000, name="x", number=1, system=climb()), 997)

    def test_errors(self):
        system = System(["x"], [
            ("step", "x", "x", 1, 0, (0, None), ()), ("step", "x", "x", 1, 0, ALL, ()),
            ("set", "x", (0, 9), ()), ("step", "x", "x", 1, 0, (None, 0), ()),
        ])
        for name in ["x", "z"]:
            for wrong in [0, 1, 2, 4, -1, -4, FAR]:
                with self.assertRaises(InvalidRule) as caught:
                    greatest_bound(system, wrong, name, 9)
                self.assertEqual(caught.exception.value, wrong)
        for wrong in ["z", "", "xx"]:
            with self.assertRaises(UnknownName) as caught:
                greatest_bound(system, 3, wrong, 9)
            self.assertEqual(caught.exception.value, wrong)

    def test_made_systems(self):
        found = {None: 0, FAR: 0, 1: 0}
        for system in made_systems(100):
            before = system.rules
            ranges = least_holding(system)
            for number, rule in enumerate(before):
                if rule[0] == "step" and rule[5][1] is not None:
                    for limit in [-100, 1, 500, 10 ** 20]:
                        name = sorted(ranges)[(number + limit) % len(ranges)]
                        told = greatest_bound(system, number, name, limit)
                        self.is_greatest(system, number, name, limit, told)
                        found[told if told in found else 1] += 1
            self.assertEqual(system.rules, before)
        self.assertGreater(min(found.values()), 10, found)


class Systems(unittest.TestCase):
    def test_they_stay(self):
        system = busy()
        greatest_high(system, 0, "a", 99)
        greatest_bound(system, 4, "b", 99)
        self.assertEqual(system, busy())


if __name__ == "__main__":
    unittest.main()
