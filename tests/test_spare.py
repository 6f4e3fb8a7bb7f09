"""Point 7 and the section tightranges/spare.py, compared with trying all that there is."""

import itertools
import unittest

from tests import naive
from tests.making import made_systems
from tests.samples import FAR, busy
from tightranges.errors import InvalidRange, UnknownName
from tightranges.holdings import least_holding
from tightranges.spare import fewest_cuts, idle_rules, needless_rules
from tightranges.systems import System

ALL = (None, None)
WITHINS = [None, (0, 0), (-10, 10), (None, 5), (-3, None), (-FAR, FAR), ALL]


def climb():
    return System(["x", "y"], [
        ("set", "x", (0, 0), ()),
        ("step", "x", "x", 1, 3, (None, 30), ()),
        ("set", "y", (5, 5), (("x", (50, None)),)),
        ("set", "x", (2, 9), ()),
    ])


def cuts_by_trying(system, name, within):
    for many in range(len(system) + 1):
        for numbers in itertools.combinations(range(len(system)), many):
            if naive.is_within(least_holding(system.without(list(numbers)))[name], within):
                return list(numbers)


class Examples(unittest.TestCase):
    def test_of_the_document(self):
        told = [
            idle_rules(climb()), needless_rules(climb()),
            fewest_cuts(climb(), "x", (0, 20)), fewest_cuts(climb(), "x", None),
        ]
        self.assertEqual(told, [[2], [2, 3], [1], [0, 3]])


class IdleRules(unittest.TestCase):
    def test_each_reason_not_to_count(self):
        system = System(["x", "y", "z"], [
            ("set", "x", (0, 0), (("y", (None, 3)),)),
            ("set", "y", (4, 4), ()),
            ("step", "z", "x", 1, 0, ALL, ()),
            ("step", "y", "y", 1, 1, (None, FAR), ()),
            ("step", "y", "y", 1, 0, (FAR + 2, None), ()),
            ("step", "y", "y", 1, 0, (FAR + 1, None), (("y", (4, 4)),)),
            ("set", "z", ALL, (("y", ALL), ("z", ALL))),
        ])
        self.assertEqual(idle_rules(system), [0, 2, 4, 6])

    def test_none_and_all(self):
        self.assertEqual(idle_rules(System(["x"], [])), [])
        self.assertEqual(idle_rules(System(["x"], [("set", "x", ALL, ())])), [])
        self.assertEqual(idle_rules(System(["x"], [("step", "x", "x", 1, 0, ALL, ())] * 3)), [0, 1, 2])

    def test_made_systems(self):
        for system in made_systems(300):
            ranges = least_holding(system)
            expected = [number for number, rule in enumerate(system.rules) if not naive.does_count(rule, ranges)]
            self.assertEqual(idle_rules(system), expected)


class NeedlessRules(unittest.TestCase):
    def test_two_rules_that_do_the_same(self):
        # Each of them alone may go, though not both.
        system = System(["x"], [("set", "x", (0, 1), ()), ("set", "x", (0, 1), ()), ("set", "x", (1, 3), ())])
        self.assertEqual(needless_rules(system), [0, 1])

    def test_a_rule_that_counts_and_changes_nothing(self):
        system = System(["x"], [("set", "x", (0, 9), ()), ("step", "x", "x", -1, 9, ALL, ())])
        self.assertEqual((idle_rules(system), needless_rules(system)), ([], [1]))

    def test_none_and_all(self):
        self.assertEqual(needless_rules(System(["x"], [])), [])
        self.assertEqual(needless_rules(System(["x"], [("set", "x", (0, 0), ())])), [])
        self.assertEqual(needless_rules(System(["x"], [("step", "x", "x", 1, 0, ALL, ())] * 2)), [0, 1])

    def test_made_systems(self):
        for system in made_systems(300):
            ranges = least_holding(system)
            for number in range(len(system)):
                same = least_holding(system.without([number])) == ranges
                self.assertIs(number in needless_rules(system), same)
            self.assertEqual([number for number in idle_rules(system) if number not in needless_rules(system)], [])


class FewestCuts(unittest.TestCase):
    def test_the_first_of_the_shortest_lists(self):
        both = (("y", (1, 1)), ("z", (1, 1)))
        system = System(["x", "y", "z"], [
            ("set", "x", (0, 0), ()), ("set", "z", (1, 1), ()), ("set", "y", (1, 1), ()),
            ("set", "x", (7, 7), both), ("set", "x", (8, 8), both),
        ])
        self.assertEqual(fewest_cuts(system, "x", (0, 0)), [1])
        self.assertEqual(fewest_cuts(system, "x", (0, 7)), [1])
        self.assertEqual(fewest_cuts(system, "x", (0, 8)), [])
        self.assertEqual(fewest_cuts(system, "x", (7, 8)), [0])
        self.assertEqual(fewest_cuts(system, "x", None), [0, 1])
        self.assertEqual(fewest_cuts(system, "y", None), [2])

    def test_all_rules_must_go(self):
        system = System(["x", "y"], [("set", "x", (k, k), ()) for k in range(7)])
        self.assertEqual(fewest_cuts(system, "x", None), [0, 1, 2, 3, 4, 5, 6])
        self.assertEqual(fewest_cuts(system, "x", (3, 3)), [0, 1, 2, 4, 5, 6])
        self.assertEqual(fewest_cuts(system, "y", None), [])
        self.assertEqual(fewest_cuts(System(["x"], []), "x", None), [])

    def test_made_systems(self):
        for number, system in enumerate(made_systems(150, most_rules=6)):
            rules = system.rules
            for within in WITHINS:
                name = system.names[number % len(system.names)]
                self.assertEqual(fewest_cuts(system, name, within), cuts_by_trying(system, name, within), number)
            self.assertEqual(system.rules, rules)

    def test_by_name(self):
        self.assertEqual(fewest_cuts(within=(0, 20), name="x", system=climb()), [1])
        self.assertEqual((idle_rules(system=climb()), needless_rules(system=climb())), ([2], [2, 3]))

    def test_more_rules_than_the_bound(self):
        system = System(["x"], [("set", "x", (k, k), ()) for k in range(9)])
        self.assertEqual(fewest_cuts(system, "x", (2, None)), [0, 1])

    def test_errors(self):
        for wrong in ["z", "", "xx", "X"]:
            for within in [(0, 20), None, (1, 0)]:
                with self.assertRaises(UnknownName) as caught:
                    fewest_cuts(climb(), wrong, within)
                self.assertEqual(caught.exception.value, wrong)
        for wrong in [(1, 0), (FAR, -FAR)]:
            for system in [climb(), System(["x"], []), System(["x"], [("step", "x", "x", 1, 0, ALL, ())])]:
                with self.assertRaises(InvalidRange) as caught:
                    fewest_cuts(system, "x", wrong)
                self.assertEqual(caught.exception.value, wrong)


class Results(unittest.TestCase):
    def test_lists_are_new_and_systems_stay(self):
        system = busy()
        for function in [idle_rules, needless_rules]:
            first = function(system)
            second = list(first)
            first.append(99)
            self.assertEqual(function(system), second)
        first = fewest_cuts(system, "a", (0, 0))
        second = list(first)
        first.append(99)
        self.assertEqual(fewest_cuts(system, "a", (0, 0)), second)
        self.assertEqual(system, busy())


if __name__ == "__main__":
    unittest.main()
