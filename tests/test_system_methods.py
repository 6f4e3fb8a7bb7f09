"""The section tightranges/systems.py: the methods that return another system."""

import unittest

from tests.samples import FAR, allows, busy, climb, small
from tests.test_systems import FAULTS, NO_NAMES
from tightranges.errors import InvalidName, InvalidNumber, InvalidRule, InvalidSystem, UnknownName
from tightranges.systems import System

SMALL_VALUES = range(-6, 7)


class MethodTest(unittest.TestCase):
    def refused(self, error, value, system, method, *arguments, **named):
        names, rules = system.names, system.rules
        with self.assertRaises(error) as caught:
            getattr(system, method)(*arguments, **named)
        self.assertEqual(caught.exception.value, value)
        self.assertEqual((system.names, system.rules), (names, rules))

    def is_as_made_anew(self, told, names, rules):
        """A system that a method returns is one like any other, with lists of its own."""
        self.assertIs(type(told), System)
        self.assertEqual((told.names, told.rules, len(told)), (names, rules, len(rules)))
        self.assertEqual(told, System(names, rules))
        told.names.clear()
        told.rules.clear()
        self.assertEqual((told.names, told.rules), (names, rules))


class Without(MethodTest):
    def test_each_list_of_numbers(self):
        one = busy()
        rules = one.rules
        lists = [[], [0], [6], [2, 4], [4, 2], [3, 3, 3], [5, 1, 5, 0], list(range(7)), [6, 5, 4, 3, 2, 1, 0, 0]]
        for numbers in lists:
            before = list(numbers)
            told = one.without(numbers)
            self.is_as_made_anew(told, one.names, [rules[k] for k in range(7) if k not in before])
            self.assertEqual(numbers, before)
        self.assertEqual(one, busy())

    def test_equal_rules_are_told_apart_by_their_numbers(self):
        rule, other = ("set", "x", (0, 0), ()), ("set", "x", (1, 1), ())
        self.assertEqual(System(["x"], [rule, other, rule]).without([2]).rules, [rule, other])
        self.assertEqual(System(["x"], [rule, other, rule]).without(numbers=[0]).rules, [other, rule])

    def test_numbers_that_are_not_there(self):
        for wrong in [2, 3, -1, -2, FAR, -FAR]:
            self.refused(InvalidRule, wrong, climb(), "without", [wrong])
            self.refused(InvalidRule, wrong, climb(), "without", [0, 1, wrong, 0])
        self.refused(InvalidRule, 0, System(["x"], []), "without", [0])

    def test_the_first_wrong_number_is_told(self):
        self.refused(InvalidRule, 9, climb(), "without", [1, 9, -1])
        self.refused(InvalidRule, -1, climb(), "without", [-1, 9])
        self.refused(InvalidRule, 2, climb(), "without", numbers=[0, 2, 2])


class WithRule(MethodTest):
    def test_good_rules(self):
        for rule in busy().rules:
            for one in [System(["a", "b", "c"], []), busy()]:
                before = one.rules
                self.is_as_made_anew(one.with_rule(rule), ["a", "b", "c"], before + [rule])
                self.assertEqual(one.with_rule(rule=rule).rules, before + [rule])
                self.assertEqual(one.rules, before)

    def test_wrong_rules(self):
        for fault in FAULTS.values():
            self.refused(InvalidSystem, 0, System(["x", "y"], []), "with_rule", fault)
            self.refused(InvalidSystem, 2, climb(), "with_rule", fault)
            self.refused(InvalidSystem, 2, climb(), "with_rule", rule=fault)


class Beside(MethodTest):
    def test_without_names_in_common(self):
        one = busy()
        other = System(["z", "aa"], [("set", "z", (1, 2), ()), ("step", "aa", "z", 1, 0, (0, 0), ())])
        self.is_as_made_anew(one.beside(other), ["a", "aa", "b", "c", "z"], one.rules + other.rules)
        self.is_as_made_anew(other.beside(other=one), ["a", "aa", "b", "c", "z"], other.rules + one.rules)
        self.assertEqual(one, busy())
        self.assertEqual((other.names, len(other)), (["aa", "z"], 2))

    def test_without_rules(self):
        one = System(["x"], [])
        self.is_as_made_anew(one.beside(System(["b"], [])), ["b", "x"], [])

    def test_names_in_common(self):
        self.refused(InvalidName, "a", busy(), "beside", busy())
        self.refused(InvalidName, "c", busy(), "beside", System(["d", "c"], []))
        self.refused(InvalidName, "b", busy(), "beside", other=System(["c", "aa", "b"], []))
        self.refused(InvalidName, "b", System(["c", "aa", "b"], []), "beside", busy())


class Renamed(MethodTest):
    def test_every_place_of_a_name(self):
        told = busy().renamed({"a": "zz", "c": "m"})
        self.is_as_made_anew(told, ["b", "m", "zz"], [
            ("set", "zz", (-3, 4), ()),
            ("set", "b", (None, None), (("zz", (2, None)),)),
            ("step", "zz", "b", -2, 7, (-5, 9), (("m", (None, 3)), ("zz", (-6, 6)))),
            ("step", "m", "m", 3, -1, (None, None), (("m", (0, 0)), ("m", (None, None)))),
            ("step", "b", "zz", 9, FAR, (None, FAR), ()),
            ("set", "m", (-FAR, None), (("b", (-FAR, FAR)),)),
            ("step", "m", "zz", -9, -FAR, (-FAR, None), (("b", (1, 1)),)),
        ])

    def test_names_exchanged(self):
        told = climb().renamed({"x": "y", "y": "x"})
        self.is_as_made_anew(told, ["x", "y"], [
            ("set", "y", (0, 0), ()),
            ("step", "y", "y", 1, 3, (None, 100), (("x", (2, None)),)),
        ])
        self.assertEqual(told.renamed({"x": "y", "y": "x"}), climb())
        round_about = busy().renamed({"a": "b", "b": "c", "c": "a"})
        self.assertEqual(round_about.renamed({"b": "a", "c": "b", "a": "c"}), busy())

    def test_names_to_themselves_and_none(self):
        self.assertEqual(busy().renamed({"a": "a", "c": "c"}), busy())
        self.assertEqual(busy().renamed({}), busy())
        self.assertIsNot(climb().renamed({}), climb())

    def test_a_name_that_another_one_gives_up(self):
        self.assertEqual(climb().renamed({"x": "y", "y": "z"}).names, ["y", "z"])
        self.assertEqual(climb().renamed(names={"y": "z", "x": "y"}).rules[0], ("set", "y", (0, 0), ()))

    def test_the_dict_and_the_system_stay(self):
        one, names = climb(), {"y": "b", "x": "a"}
        one.renamed(names)
        self.assertEqual(list(names.items()), [("y", "b"), ("x", "a")])
        self.assertEqual(one, climb())

    def test_unknown_names(self):
        self.refused(UnknownName, "z", climb(), "renamed", {"z": "a"})
        self.refused(UnknownName, "w", climb(), "renamed", {"z": "a", "x": "b", "w": "c"})
        self.refused(UnknownName, "X", climb(), "renamed", {"X": "a", "z": "b"})
        self.refused(UnknownName, "", climb(), "renamed", names={"": "x"})

    def test_new_names_that_are_none(self):
        for wrong in NO_NAMES:
            self.refused(InvalidName, wrong, climb(), "renamed", {"x": wrong})
            self.refused(InvalidName, wrong, climb(), "renamed", {"y": wrong, "x": "b"})

    def test_new_names_that_two_would_have(self):
        self.refused(InvalidName, "y", climb(), "renamed", {"x": "y"})
        self.refused(InvalidName, "x", climb(), "renamed", {"y": "x"})
        self.refused(InvalidName, "z", climb(), "renamed", {"x": "z", "y": "z"})
        self.refused(InvalidName, "y", climb(), "renamed", {"x": "y", "y": "y"})
        self.refused(InvalidName, "a", busy(), "renamed", {"b": "a", "a": "a"})

    def test_the_first_key_with_a_wrong_new_name_is_told(self):
        self.refused(InvalidName, "B", climb(), "renamed", {"y": "A", "x": "B"})
        self.refused(InvalidName, "c", busy(), "renamed", {"b": "", "a": "c"})
        self.refused(InvalidName, "", busy(), "renamed", {"b": "c", "a": ""})
        self.refused(InvalidName, "q", busy(), "renamed", {"c": "q", "b": "q", "a": "p"})

    def test_unknown_names_are_told_before_wrong_new_names(self):
        self.refused(UnknownName, "z", climb(), "renamed", {"x": "", "z": "a"})
        self.refused(UnknownName, "z", climb(), "renamed", {"x": "y", "z": "z"})


class OtherValues(MethodTest):
    def keeps_what_rules_allow(self, told, times, shifts):
        """Each rule allows the changed values where it allowed those before."""
        one = small()
        found = 0
        for rule, changed in zip(one.rules, told.rules):
            for p in SMALL_VALUES:
                for q in SMALL_VALUES:
                    before = {"p": p, "q": q}
                    after = {name: times * before[name] + shifts.get(name, 0) for name in before}
                    for value in range(-20, 21):
                        new = times * value + shifts.get(rule[1], 0)
                        allowed = allows(rule, before, value)
                        self.assertEqual(allows(changed, after, new), allowed, (rule, changed, before, value))
                        found += allowed
        self.assertGreater(found, 100)


class Mirrored(OtherValues):
    def test_every_form(self):
        self.is_as_made_anew(busy().mirrored(), ["a", "b", "c"], [
            ("set", "a", (-4, 3), ()),
            ("set", "b", (None, None), (("a", (None, -2)),)),
            ("step", "a", "b", -2, -7, (-9, 5), (("c", (-3, None)), ("a", (-6, 6)))),
            ("step", "c", "c", 3, 1, (None, None), (("c", (0, 0)), ("c", (None, None)))),
            ("step", "b", "a", 9, -FAR, (-FAR, None), ()),
            ("set", "c", (None, FAR), (("b", (-FAR, FAR)),)),
            ("step", "c", "a", -9, FAR, (None, FAR), (("b", (-1, -1)),)),
        ])

    def test_twice(self):
        one = busy()
        self.assertEqual(one.mirrored().mirrored(), one)
        self.assertNotEqual(one.mirrored(), one)
        self.assertEqual(one, busy())

    def test_what_rules_allow(self):
        self.keeps_what_rules_allow(small().mirrored(), -1, {})


class Moved(OtherValues):
    def test_every_form(self):
        self.is_as_made_anew(busy().moved({"a": 10, "c": -1}), ["a", "b", "c"], [
            ("set", "a", (7, 14), ()),
            ("set", "b", (None, None), (("a", (12, None)),)),
            ("step", "a", "b", -2, 17, (-5, 9), (("c", (None, 2)), ("a", (4, 16)))),
            ("step", "c", "c", 3, 1, (None, None), (("c", (-1, -1)), ("c", (None, None)))),
            ("step", "b", "a", 9, FAR - 90, (None, FAR + 10), ()),
            ("set", "c", (-FAR - 1, None), (("b", (-FAR, FAR)),)),
            ("step", "c", "a", -9, -FAR + 89, (-FAR + 10, None), (("b", (1, 1)),)),
        ])

    def test_there_and_back(self):
        shifts = {"c": FAR, "a": -3}
        there = busy().moved(shifts)
        self.assertNotEqual(there, busy())
        self.assertEqual(there.moved({"a": 3, "c": -FAR}), busy())
        self.assertEqual(list(shifts.items()), [("c", FAR), ("a", -3)])

    def test_by_nothing(self):
        self.assertEqual(busy().moved({}), busy())
        self.assertEqual(busy().moved(shifts={"a": 0, "b": 0}), busy())

    def test_the_system_stays(self):
        one = busy()
        one.moved({"a": 5})
        self.assertEqual(one, busy())

    def test_what_rules_allow(self):
        for shifts in [{"p": 3}, {"q": -2}, {"p": FAR, "q": -5}]:
            self.keeps_what_rules_allow(small().moved(shifts), 1, shifts)

    def test_unknown_names(self):
        self.refused(UnknownName, "z", climb(), "moved", {"z": 1})
        self.refused(UnknownName, "w", climb(), "moved", {"z": 1, "x": 2, "w": 0})
        self.refused(UnknownName, "", climb(), "moved", shifts={"a": 0, "": 0})


class Stretched(OtherValues):
    def test_every_form(self):
        self.is_as_made_anew(busy().stretched(3), ["a", "b", "c"], [
            ("set", "a", (-9, 12), ()),
            ("set", "b", (None, None), (("a", (6, None)),)),
            ("step", "a", "b", -2, 21, (-15, 27), (("c", (None, 9)), ("a", (-18, 18)))),
            ("step", "c", "c", 3, -3, (None, None), (("c", (0, 0)), ("c", (None, None)))),
            ("step", "b", "a", 9, 3 * FAR, (None, 3 * FAR), ()),
            ("set", "c", (-3 * FAR, None), (("b", (-3 * FAR, 3 * FAR)),)),
            ("step", "c", "a", -9, -3 * FAR, (-3 * FAR, None), (("b", (3, 3)),)),
        ])

    def test_by_one_and_by_more(self):
        one = busy()
        self.assertEqual(one.stretched(1), one)
        self.assertEqual(one.stretched(2).stretched(times=5), one.stretched(10))
        self.assertEqual(one.stretched(FAR).rules[0], ("set", "a", (-3 * FAR, 4 * FAR), ()))
        self.assertEqual(one, busy())

    def test_what_rules_allow(self):
        for times in [2, 7]:
            self.keeps_what_rules_allow(small().stretched(times), times, {})

    def test_by_less_than_one(self):
        for times in [0, -1, -7, -FAR]:
            self.refused(InvalidNumber, times, climb(), "stretched", times)
            self.refused(InvalidNumber, times, climb(), "stretched", times=times)


if __name__ == "__main__":
    unittest.main()
