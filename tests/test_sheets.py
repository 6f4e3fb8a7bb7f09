"""Points 2, 3, 6 and 7, and the section of sheets: what a sheet tells, and how it changes and changes back."""

import random
import unittest

from tests.making import FACTORS, made_rule, made_system, made_systems
from tests.samples import FAR, busy, climb, small
from tightranges.errors import InvalidRule, InvalidSystem, NothingToUndo, RangeError, UnknownName, Unreadable
from tightranges.holdings import least_holding
from tightranges.sheets import Sheet
from tightranges.systems import System
from tightranges.texts import show_system

ALL = (None, None)
FAULTY = [
    ("set", "z", (0, 0), ()), ("set", "X", (0, 0), ()), ("set", "x", (1, 0), ()), ("set", "x", None, ()),
    ("step", "z", "x", 1, 0, ALL, ()), ("step", "x", "z", 1, 0, ALL, ()), ("step", "x", "x", 0, 0, ALL, ()),
    ("step", "x", "x", 1, 0, None, ()), ("step", "x", "x", 1, 0, (FAR, FAR - 1), ()),
    ("set", "x", (0, 0), (("z", ALL),)), ("set", "x", (0, 0), (("x", ALL), ("x", None))),
    ("step", "x", "y", 1, 0, ALL, (("y", (5, 3)),)),
]


def three():
    """Three variables, one of which stays empty until a greater x is reached."""
    return System(["x", "y", "z"], [
        ("set", "x", (0, 0), ()),
        ("step", "x", "x", 1, 3, (None, 100), ()),
        ("step", "y", "x", -1, 0, (50, None), ()),
        ("set", "z", (7, 7), (("y", (None, -110)),)),
    ])


def reached(sheet):
    return {name: sheet.range_of(name) for name in sheet.system.names}


class SheetTest(unittest.TestCase):
    def refuses(self, error, value, sheet, call):
        """A call raises an error, and nothing else comes of it."""
        before, ranges, walk = sheet.system, reached(sheet), list(sheet.unreached())
        told = before.rules
        with self.assertRaises(RangeError) as caught:
            call()
        self.assertIs(type(caught.exception), error)
        self.assertEqual(caught.exception.value, value)
        self.assertEqual(sheet.system, before)
        self.assertEqual(before.rules, told)
        self.assertEqual((reached(sheet), list(sheet.unreached())), (ranges, walk))

    def tells(self, sheet, system):
        """What a sheet tells is what its present system tells."""
        ranges = least_holding(system)
        self.assertEqual(sheet.system, system)
        self.assertEqual(sheet, Sheet(system))
        self.assertEqual(reached(sheet), ranges)
        self.assertEqual(list(sheet.unreached()), [name for name in system.names if ranges[name] is None])

    def has_nothing_to_undo(self, sheet):
        self.refuses(NothingToUndo, 0, sheet, sheet.undo)


class Examples(unittest.TestCase):
    def test_of_the_document(self):
        sheet = Sheet.of_text("x y: x is 0..0")
        told = [
            list(sheet.unreached()), sheet.add(("step", "x", "x", 1, 3, (None, 100), ())),
            sheet.add(("step", "y", "x", 1, 0, (200, None), ())),
            sheet.put(2, ("step", "y", "x", 1, 0, (100, None), ())), sheet.range_of("y"), sheet.drop(1), sheet.undo(),
            sheet.range_of("x"),
        ]
        self.assertEqual(told, [["y"], ["x"], [], ["y"], (100, 103), ["x", "y"], None, (0, 103)])


class Telling(SheetTest):
    def test_system_is_a_property(self):
        self.assertIsInstance(vars(Sheet)["system"], property)
        self.assertIsInstance(Sheet(climb()).system, System)
        self.assertEqual(Sheet(system=climb()).system, climb())

    def test_methods_are_of_the_class_itself(self):
        for name in ["range_of", "unreached", "add", "drop", "put", "undo", "of_text"]:
            self.assertIn(name, vars(Sheet))

    def test_ranges(self):
        sheet = Sheet(three())
        self.assertEqual(reached(sheet), {"x": (0, 103), "y": (-103, -50), "z": None})
        self.assertEqual(sheet.range_of(name="x"), (0, 103))
        sheet = Sheet(System(["x", "y"], [("set", "x", (None, -FAR), ()), ("step", "y", "x", -9, 1, ALL, ())]))
        self.assertEqual(reached(sheet), {"x": (None, -FAR), "y": (9 * FAR + 1, None)})

    def test_name_check(self):
        for name in ["z", "", "X", "xx", "abcdefghi", " x", "xy"]:
            sheet = Sheet(climb())
            self.refuses(UnknownName, name, sheet, lambda: sheet.range_of(name))

    def test_unreached(self):
        for system, names in [
            (three(), ["z"]), (climb(), ["y"]), (System(["c", "a", "b"], []), ["a", "b", "c"]),
            (System(["c", "a", "b"], [("set", "b", (0, 0), ())]), ["a", "c"]),
            (System(["x"], [("set", "x", ALL, ())]), []),
            (System(["x", "y"], [("step", "x", "y", 1, 0, ALL, ()), ("step", "y", "x", 1, 0, ALL, ())]), ["x", "y"]),
        ]:
            sheet = Sheet(system)
            self.assertEqual(list(sheet.unreached()), names)
            self.assertEqual(list(sheet.unreached()), names)

    def test_unreached_yields_one_name_after_the_other(self):
        sheet = Sheet(System(["c", "a", "b"], []))
        walk = sheet.unreached()
        self.assertIs(iter(walk), walk)
        self.assertEqual([next(walk), next(walk), next(walk), next(walk, None), next(walk, None)], ["a", "b", "c", None, None])

    def test_two_walks_at_the_same_time(self):
        sheet = Sheet(System(["c", "a", "b"], []))
        one = sheet.unreached()
        self.assertEqual(next(one), "a")
        other = sheet.unreached()
        self.assertEqual([next(other), next(other), next(one), next(other), next(one)], ["a", "b", "b", "c", "c"])
        self.assertEqual([list(one), list(other)], [[], []])
        self.assertEqual([(a, b) for a in sheet.unreached() for b in sheet.unreached()],
                         [(a, b) for a in "abc" for b in "abc"])

    def test_telling_between_the_steps_of_a_walk(self):
        sheet = Sheet(System(["c", "a", "b"], [("set", "b", (1, 2), ())]))
        walk = sheet.unreached()
        self.assertEqual(next(walk), "a")
        self.assertEqual([sheet.range_of("a"), sheet.range_of("b"), len(sheet.system)], [None, (1, 2), 1])
        self.assertEqual(list(walk), ["c"])

    def test_a_walk_that_is_left_early(self):
        sheet = Sheet(System(["a", "b"], []))
        next(sheet.unreached())
        self.assertEqual(sheet.add(("set", "a", (0, 0), ())), ["a"])
        self.assertEqual(list(sheet.unreached()), ["b"])

    def test_made_systems(self):
        for system in made_systems(200):
            self.tells(Sheet(system), system)


class Equality(SheetTest):
    def test_equal_sheets(self):
        self.assertTrue(Sheet(climb()) == Sheet(climb()))
        self.assertFalse(Sheet(climb()) != Sheet(climb()))
        self.assertTrue(Sheet(System(["a", "b"], [])) == Sheet.of_text("a b: -"))

    def test_sheets_that_are_not_equal(self):
        one = Sheet(climb())
        for other in [busy(), climb().without([0]), climb().renamed({"y": "z"}), climb().mirrored()]:
            self.assertFalse(one == Sheet(other))
            self.assertTrue(one != Sheet(other))
        # The same least holding does not make equal systems.
        rule = ("set", "x", (0, 0), ())
        self.assertFalse(Sheet(System(["x"], [rule])) == Sheet(System(["x"], [rule, rule])))

    def test_what_can_be_taken_back_does_not_count(self):
        one, other = Sheet(climb()), Sheet(climb())
        one.add(("set", "y", (0, 0), ()))
        self.assertFalse(one == other)
        one.drop(2)
        self.assertTrue(one == other)
        one.undo()
        self.assertFalse(one == other)
        one.undo()
        self.assertTrue(one == other)

    def test_not_equal_to_anything_else(self):
        class Other:
            system = climb()

        for other in [climb(), show_system(climb()), None, 0, "", [], (), {}, Other(), Sheet, [Sheet(climb())]]:
            self.assertFalse(Sheet(climb()) == other)
            self.assertFalse(other == Sheet(climb()))
            self.assertTrue(Sheet(climb()) != other)


class Changing(SheetTest):
    def test_by_name(self):
        sheet = Sheet(climb())
        rule = ("set", "y", (2, 2), ())
        self.assertEqual(sheet.add(rule=rule), ["x", "y"])
        self.assertEqual(sheet.put(number=2, rule=rule), [])
        self.assertEqual(sheet.drop(number=2), ["x", "y"])
        self.assertEqual(Sheet.of_text(text="x: -").system, System(["x"], []))

    def test_add(self):
        sheet = Sheet(System(["x", "y"], []))
        rules = []
        for rule, names in [
            (("step", "y", "x", -1, 0, ALL, ()), []),
            (("set", "x", (0, 5), ()), ["x", "y"]),
            (("set", "x", (2, 3), ()), []),
            (("set", "y", (1, 1), (("x", (6, None)),)), []),
            (("set", "y", (1, 1), (("x", (5, None)),)), ["y"]),
            (("step", "x", "y", 1, 0, (None, 0), ()), ["x", "y"]),
        ]:
            self.assertEqual(sheet.add(rule), names)
            rules.append(rule)
            self.tells(sheet, System(["x", "y"], rules))

    def test_names_of_changed_ranges_ascend(self):
        names = ["f", "c", "e", "a", "d", "b"]
        rules = [("step", x, y, 1, 0, ALL, ()) for x, y in zip(names, names[1:])]
        sheet = Sheet(System(names, rules))
        self.assertEqual(sheet.add(("set", "b", (1, 1), ())), sorted(names))
        self.assertEqual(sheet.put(5, ("set", "e", (1, 1), ())), ["a", "b", "d"])
        self.assertEqual(sheet.drop(5), ["c", "e", "f"])

    def test_drop(self):
        for number, names in [(0, ["x", "y"]), (1, ["x", "y"]), (2, ["y"]), (3, [])]:
            sheet = Sheet(three())
            self.assertEqual(sheet.drop(number), names)
            self.tells(sheet, three().without([number]))

    def test_drop_all(self):
        sheet = Sheet(three())
        self.assertEqual([sheet.drop(0) for _ in range(4)], [["x", "y"], [], [], []])
        self.tells(sheet, System(["x", "y", "z"], []))

    def test_put(self):
        for number, rule, names in [
            (0, ("set", "x", (0, 0), ()), []),
            (0, ("set", "x", (1, 1), ()), ["x"]),
            (0, ("set", "x", (-8, 120), ()), ["x", "y", "z"]),
            (1, ("step", "x", "x", 1, 3, ALL, ()), ["x", "y", "z"]),
            (1, ("step", "x", "x", 1, -3, (None, 100), ()), ["x", "y"]),
            (2, ("step", "y", "x", -1, 0, (None, 50), ()), ["y"]),
            (2, ("step", "y", "x", -2, 0, (50, None), ()), ["y", "z"]),
            (3, ("set", "y", (7, 7), ()), ["y"]),
            (3, ("set", "z", (7, 7), (("y", (None, -103)),)), ["z"]),
        ]:
            sheet = Sheet(three())
            self.assertEqual(sheet.put(number, rule), names)
            rules = three().rules
            rules[number] = rule
            self.tells(sheet, System(["x", "y", "z"], rules))

    def test_add_refuses_as_with_rule(self):
        for rule in FAULTY:
            sheet = Sheet(climb())
            self.refuses(InvalidSystem, 2, sheet, lambda: sheet.add(rule))
            sheet.drop(0)
            self.refuses(InvalidSystem, 1, sheet, lambda: sheet.add(rule))

    def test_rule_check(self):
        for number in [-1, -2, 2, 3, FAR, -FAR]:
            sheet = Sheet(climb())
            self.refuses(InvalidRule, number, sheet, lambda: sheet.drop(number))
            # Rule check comes first, whatever the rule is.
            for rule in FAULTY[:4] + [("set", "x", (0, 0), ())]:
                self.refuses(InvalidRule, number, sheet, lambda: sheet.put(number, rule))
        sheet = Sheet(System(["x"], []))
        self.refuses(InvalidRule, 0, sheet, lambda: sheet.drop(0))
        self.refuses(InvalidRule, 0, sheet, lambda: sheet.put(0, ("set", "x", (0, 0), ())))

    def test_put_refuses_as_system_check(self):
        for rule in FAULTY:
            for number in [0, 1]:
                sheet = Sheet(climb())
                self.refuses(InvalidSystem, number, sheet, lambda: sheet.put(number, rule))

    def test_the_system_that_was_handed_in_stays(self):
        system = climb()
        sheet = Sheet(system)
        told = sheet.system
        sheet.add(("set", "y", (2, 2), ()))
        sheet.put(0, ("set", "x", (1, 1), ()))
        sheet.drop(1)
        self.assertEqual(system, climb())
        self.assertEqual(told, climb())
        sheet.undo()
        self.assertEqual(system, climb())

    def test_sheets_of_one_system_are_two(self):
        system = climb()
        one, other = Sheet(system), Sheet(system)
        one.drop(0)
        self.tells(other, climb())
        self.has_nothing_to_undo(other)

    def test_returned_lists_are_new(self):
        sheet = Sheet(climb())
        names = sheet.add(("set", "y", (2, 2), ()))
        names.clear()
        sheet.system.rules.clear()
        sheet.system.names.clear()
        self.tells(sheet, climb().with_rule(("set", "y", (2, 2), ())))


class Undo(SheetTest):
    def test_nothing_to_undo(self):
        for sheet in [Sheet(climb()), Sheet(System(["x"], [])), Sheet.of_text("x: x is 0..1")]:
            self.has_nothing_to_undo(sheet)
            self.has_nothing_to_undo(sheet)

    def test_each_call_is_taken_back(self):
        for call in [
            lambda sheet: sheet.add(("set", "y", (2, 2), ())),
            lambda sheet: sheet.drop(0),
            lambda sheet: sheet.put(0, ("set", "x", (-5, 5), ())),
            # These change no range, or not even a rule.
            lambda sheet: sheet.add(("set", "x", (0, 0), ())),
            lambda sheet: sheet.drop(1),
            lambda sheet: sheet.put(1, climb().rules[1]),
        ]:
            sheet = Sheet(climb())
            call(sheet)
            self.assertIsNone(sheet.undo())
            self.tells(sheet, climb())
            self.has_nothing_to_undo(sheet)

    def test_last_call_first(self):
        sheet = Sheet(three())
        systems = [sheet.system]
        for number in [3, 0, 1, 0]:
            sheet.drop(number)
            systems.append(sheet.system)
        sheet.add(("set", "y", (0, 1), ()))
        systems.append(sheet.system)
        sheet.put(0, ("set", "y", (0, 1), ()))
        while systems:
            sheet.undo()
            self.tells(sheet, systems.pop())
        self.tells(sheet, three())
        self.has_nothing_to_undo(sheet)

    def test_no_undo_of_undo(self):
        sheet = Sheet(climb())
        sheet.drop(0)
        sheet.add(("set", "y", (2, 2), ()))
        sheet.undo()
        sheet.undo()
        self.tells(sheet, climb())
        self.has_nothing_to_undo(sheet)
        sheet.drop(1)
        self.tells(sheet, climb().without([1]))
        sheet.undo()
        self.tells(sheet, climb())
        self.has_nothing_to_undo(sheet)

    def test_calls_that_raised_are_not_taken_back(self):
        sheet = Sheet(climb())
        rule = ("set", "y", (2, 2), ())
        sheet.add(rule)
        for call in [
            lambda: sheet.add(FAULTY[0]), lambda: sheet.drop(9), lambda: sheet.put(9, rule),
            lambda: sheet.put(0, FAULTY[0]), lambda: sheet.range_of("z"),
        ]:
            with self.assertRaises(RangeError):
                call()
        self.tells(sheet, climb().with_rule(rule))
        sheet.undo()
        self.tells(sheet, climb())
        self.has_nothing_to_undo(sheet)

    def test_telling_does_not_count(self):
        sheet = Sheet(climb())
        sheet.drop(1)
        self.assertEqual([sheet.range_of("x"), list(sheet.unreached()), sheet == Sheet(climb())], [(0, 0), ["y"], False])
        sheet.undo()
        self.has_nothing_to_undo(sheet)

    def test_fifty_calls(self):
        sheet = Sheet(climb())
        systems = []
        for number in range(50):
            systems.append(sheet.system)
            sheet.put(0, ("set", "x", (number, number + 1), ()))
        while systems:
            sheet.undo()
            self.assertEqual(sheet.system, systems.pop())
        self.has_nothing_to_undo(sheet)


class OfText(SheetTest):
    def test_sheets(self):
        for system in [climb(), busy(), small(), three(), System(["x"], [])] + made_systems(100):
            sheet = Sheet.of_text(show_system(system))
            self.assertIs(type(sheet), Sheet)
            self.tells(sheet, system)
            self.has_nothing_to_undo(sheet)

    def test_texts_of_no_system(self):
        for text in ["", "x", "x:-", "y x: -", "x x: -", "x: y is 0..1", "x: x is 1..0", "x: x is none", "x: -;", "x: - "]:
            with self.assertRaises(Unreadable) as caught:
                Sheet.of_text(text)
            self.assertEqual(caught.exception.value, text)


def call(sheet, kind, number, rule):
    if kind == "add":
        return sheet.add(rule)
    return sheet.drop(number) if kind == "drop" else sheet.put(number, rule)


def rules_after(rules, kind, number, rule):
    if kind == "add":
        return rules + [rule]
    return rules[:number] + ([rule] if kind == "put" else []) + rules[number + 1:]


def fault_of(system, kind, number, is_faulty):
    """The error that a call raises, and its value; None if it raises none."""
    if kind != "add" and not 0 <= number < len(system):
        return InvalidRule, number
    if kind != "drop" and is_faulty:
        return InvalidSystem, len(system) if kind == "add" else number
    return None


class MadeChanges(SheetTest):
    def change(self, source, sheet):
        """Makes a change that may be refused; returns the system that comes out, None if it is refused."""
        system = sheet.system
        name = system.names[0]
        kind, number = source.choice(["add", "drop", "put"]), source.randint(-1, len(system))
        is_faulty = source.random() < 0.1
        if is_faulty:
            rule = source.choice([("set", "none", (0, 0), ()), ("step", name, name, 0, 1, ALL, ())])
        else:
            rule = made_rule(source, system.names, FAR, source.choice(FACTORS))
        fault = fault_of(system, kind, number, is_faulty)
        if fault:
            self.refuses(*fault, sheet, lambda: call(sheet, kind, number, rule))
            return None
        after = System(system.names, rules_after(system.rules, kind, number, rule))
        old, new = least_holding(system), least_holding(after)
        self.assertEqual(call(sheet, kind, number, rule), [one for one in system.names if old[one] != new[one]])
        return after

    def undo(self, sheet, systems):
        if len(systems) == 1:
            self.has_nothing_to_undo(sheet)
            return "nothing"
        self.assertIsNone(sheet.undo())
        systems.pop()
        return "undone"

    def test_made_changes(self):
        found = {"refused": 0, "changed": 0, "undone": 0, "nothing": 0}
        for number in range(120):
            source = random.Random(number)
            systems = [made_system(number)]
            sheet = Sheet(systems[0])
            for _ in range(25):
                if source.random() < 0.3:
                    found[self.undo(sheet, systems)] += 1
                else:
                    system = self.change(source, sheet)
                    if system is not None:
                        systems.append(system)
                    found["refused" if system is None else "changed"] += 1
                self.tells(sheet, systems[-1])
                self.assertEqual(Sheet.of_text(show_system(sheet.system)), sheet)
        self.assertGreater(min(found.values()), 50, found)


if __name__ == "__main__":
    unittest.main()
