"""Points 5 and 6, and the section tightranges/systems.py: what a system is, and System check."""

import unittest

from tests.samples import FAR, busy, climb
from tightranges.errors import InvalidName, InvalidSystem
from tightranges.systems import System

NO_NAMES = ["", "abcdefghi", "A", "aB", "a1", "1", "_", "a_b", "a b", " a", "a ", "a\n", "-", "~", "a`", "{"]
SET = ("set", "x", (0, 0), ())
FAULTS = {
    "x of a set": ("set", "z", (0, 0), ()),
    "x of a step": ("step", "z", "x", 1, 0, (0, 0), ()),
    "y of a step": ("step", "x", "z", 1, 0, (0, 0), ()),
    "first condition": ("set", "x", (0, 0), (("z", (0, 0)), ("x", (0, 0)))),
    "second condition": ("step", "x", "y", 1, 0, (0, 0), (("x", (0, 0)), ("z", (0, 0)))),
    "a name that is none": ("set", "X", (0, 0), ()),
    "factor": ("step", "x", "y", 0, 0, (0, 0), ()),
    "empty within of a set": ("set", "x", None, ()),
    "empty within of a step": ("step", "x", "y", 1, 0, None, ()),
    "within of a set": ("set", "x", (1, 0), ()),
    "within of a step": ("step", "x", "y", 1, 0, (FAR, FAR - 1), ()),
    "empty first condition": ("set", "x", (0, 0), (("x", None), ("y", (0, 0)))),
    "empty second condition": ("step", "x", "y", 1, 0, (0, 0), (("x", (0, 0)), ("y", None))),
    "range of a first condition": ("set", "x", (0, 0), (("y", (0, -1)),)),
    "range of a second condition": ("step", "x", "y", 1, 0, (0, 0), (("x", (0, 0)), ("y", (5, 3)))),
}


class Examples(unittest.TestCase):
    def test_of_the_document(self):
        one = climb()
        told = [
            one.names, len(one), one.stretched(10).rules[1], one.mirrored().rules[1],
            one.moved({"x": 10}).rules[1], one.renamed({"x": "z"}).rules[0],
        ]
        self.assertEqual(told, [
            ["x", "y"], 2,
            ("step", "x", "x", 1, 30, (None, 1000), (("y", (20, None)),)),
            ("step", "x", "x", 1, -3, (-100, None), (("y", (None, -2)),)),
            ("step", "x", "x", 1, 3, (None, 110), (("y", (2, None)),)),
            ("set", "z", (0, 0), ()),
        ])


class Systems(unittest.TestCase):
    def test_names_ascend_and_rules_keep_their_sequence(self):
        rules = [("set", "c", (1, 1), ()), ("set", "a", (2, 2), ()), ("set", "c", (0, 0), ())]
        one = System(["c", "aa", "a", "b"], rules)
        self.assertEqual(one.names, ["a", "aa", "b", "c"])
        self.assertEqual(one.rules, rules)

    def test_by_name(self):
        one = System(rules=[SET], names=["x"])
        self.assertEqual((one.names, one.rules), (["x"], [SET]))

    def test_length_is_the_number_of_rules(self):
        self.assertEqual(len(System(["a", "b"], [])), 0)
        self.assertEqual(len(System(["x"], [SET])), 1)
        self.assertEqual(len(System(["x"], [SET] * 12)), 12)

    def test_names_of_every_length(self):
        names = ["abcdefgh"[:length] for length in range(1, 9)] + ["z", "zzzzzzzz"]
        self.assertEqual(System(names, []).names, sorted(names))

    def test_rules_of_every_form(self):
        one = busy()
        self.assertEqual(one.rules[2], ("step", "a", "b", -2, 7, (-5, 9), (("c", (None, 3)), ("a", (-6, 6)))))
        self.assertEqual(one.rules[5], ("set", "c", (-FAR, None), (("b", (-FAR, FAR)),)))
        self.assertEqual(len(one), 7)

    def test_numbers_beyond_the_bounds(self):
        beyond = 10 ** 60
        rule = ("step", "x", "x", beyond, -beyond, (-beyond, beyond), (("x", (beyond, beyond)),))
        self.assertEqual(System(["x"], [rule]).rules, [rule])

    def test_names_and_rules_are_properties(self):
        for name in ["names", "rules"]:
            self.assertIsInstance(vars(System)[name], property)

    def test_methods_are_of_the_class_itself(self):
        for name in ["without", "with_rule", "beside", "renamed", "mirrored", "moved", "stretched"]:
            self.assertIn(name, vars(System))

    def test_lists_are_new_each_time(self):
        one = climb()
        for name in ["names", "rules"]:
            before = list(getattr(one, name))
            self.assertIsNot(getattr(one, name), getattr(one, name))
            getattr(one, name).clear()
            getattr(one, name).append("z")
            self.assertEqual(getattr(one, name), before)

    def test_passed_lists_stay_and_later_changes_have_no_effect(self):
        names, rules = ["y", "x"], [SET, ("set", "y", (1, 2), ())]
        one = System(names, rules)
        self.assertEqual((names, rules), (["y", "x"], [SET, ("set", "y", (1, 2), ())]))
        names.append("z")
        rules.reverse()
        self.assertEqual(one.names, ["x", "y"])
        self.assertEqual(one.rules, [SET, ("set", "y", (1, 2), ())])


class Equality(unittest.TestCase):
    def test_equal_systems(self):
        self.assertTrue(climb() == climb())
        self.assertFalse(climb() != climb())
        self.assertTrue(System(["a", "b"], []) == System(["b", "a"], []))

    def test_systems_that_are_not_equal(self):
        one = System(["x", "y"], [SET, ("set", "y", (1, 2), ())])
        others = [
            System(["x", "y", "z"], one.rules),
            System(["x", "y"], one.rules[::-1]),
            System(["x", "y"], one.rules[:1]),
            System(["x", "y"], one.rules + [SET]),
            System(["x", "y"], [SET, ("set", "y", (1, 3), ())]),
            System(["x", "y"], [("set", "x", (0, 0), (("x", (0, 0)),)), ("set", "y", (1, 2), ())]),
        ]
        for other in others:
            self.assertFalse(one == other, other.rules)
            self.assertTrue(one != other, other.rules)
        self.assertFalse(System(["a"], []) == System(["b"], []))

    def test_other_things(self):
        empty = System(["x"], [])
        for other in [None, 0, "x", [], ["x"], (["x"], []), {"x": []}, System]:
            self.assertFalse(empty == other)
            self.assertTrue(empty != other)
            self.assertFalse(other == empty)


class SystemCheck(unittest.TestCase):
    def refused(self, error, value, names, rules):
        with self.assertRaises(error) as caught:
            System(names, rules)
        self.assertEqual(caught.exception.value, value)

    def test_strings_that_are_no_names(self):
        for wrong in NO_NAMES:
            self.refused(InvalidName, wrong, [wrong], [])
            self.refused(InvalidName, wrong, ["x", wrong, "y"], [SET])

    def test_a_name_twice(self):
        self.refused(InvalidName, "x", ["x", "x"], [])
        self.refused(InvalidName, "y", ["x", "y", "z", "y"], [SET])

    def test_the_first_wrong_string_is_told(self):
        self.refused(InvalidName, "Z", ["x", "Z", "A"], [])
        self.refused(InvalidName, "x", ["x", "x", "A"], [])
        self.refused(InvalidName, "A", ["x", "A", "x"], [])
        self.refused(InvalidName, "y", ["x", "y", "y", "x"], [])
        self.refused(InvalidName, "A", ["A", "A"], [])

    def test_each_fault_of_a_rule(self):
        for fault in FAULTS.values():
            self.refused(InvalidSystem, 0, ["x", "y"], [fault])
            self.refused(InvalidSystem, 2, ["x", "y"], [SET, SET, fault, SET])

    def test_the_first_faulty_rule_is_told(self):
        for fault in FAULTS.values():
            for other in FAULTS.values():
                self.refused(InvalidSystem, 1, ["y", "x"], [SET, fault, other])

    def test_names_are_checked_before_rules(self):
        for fault in FAULTS.values():
            self.refused(InvalidName, "", ["x", "y", ""], [fault])
            self.refused(InvalidName, "x", ["x", "y", "x"], [fault])

    def test_a_refused_call_changes_no_argument(self):
        names, rules = ["y", "x"], [SET, FAULTS["factor"]]
        self.refused(InvalidSystem, 1, names, rules)
        self.assertEqual((names, rules), (["y", "x"], [SET, FAULTS["factor"]]))


if __name__ == "__main__":
    unittest.main()
