"""Points 4 to 7 and 10, and the section tightranges/holdings.py."""

import random
import unittest

from tests import naive
from tests.making import made_ranges, made_systems
from tests.samples import FAR, allows, busy, is_in, small
from tightranges.errors import InvalidRule
from tightranges.holdings import counts, gives, is_holding, least_holding
from tightranges.moves import derivation
from tightranges.systems import System

ALL = (None, None)
SMALL_RANGES = [None, (-3, -2), (0, 0), (-1, 4), (5, 6), (None, -1), (2, None), ALL]


def one_set(low, high):
    return ("set", "x", (low, high), ())


def step(x, y, factor, add, within=ALL, *conditions):
    return ("step", x, y, factor, add, within, conditions)


def climb():
    return System(["x", "y"], [
        ("set", "x", (0, 0), ()),
        ("step", "x", "x", 1, 3, (None, 100), ()),
        ("step", "y", "x", -1, 0, (50, None), ()),
    ])


class Examples(unittest.TestCase):
    def test_of_the_document(self):
        far = System(["x"], [("set", "x", (1, 1), ()), ("step", "x", "x", 2, 0, (None, 10 ** 30), ())])
        told = [
            least_holding(climb()), is_holding(climb(), {"x": (0, 103), "y": None}),
            counts(climb(), {"x": (0, 3), "y": None}, 2), gives(climb(), {"x": (0, 60), "y": None}, 2),
            least_holding(far) == {"x": (1, 2 * 10 ** 30)},
        ]
        self.assertEqual(told, [{"x": (0, 103), "y": (-103, -50)}, False, False, (-60, -50), True])


class CountsAndGives(unittest.TestCase):
    def values(self, one):
        """Integers of a range, enough of them to tell it and to meet all numbers of small()."""
        return [] if one is None else [value for value in range(-12, 13) if is_in(value, one)]

    def told_by_values(self, rule, ranges):
        """What a rule gives by single values; the conditions may hold for different values of one variable."""
        for name, one in rule[-1]:
            if not any(is_in(value, one) for value in self.values(ranges[name])):
                return []
        if rule[0] == "set":
            return self.values(rule[2])
        _, _, y, factor, add, within, _ = rule
        return sorted(factor * value + add for value in self.values(ranges[y]) if is_in(value, within))

    def test_small_numbers(self):
        system = small()
        for p in SMALL_RANGES:
            for q in SMALL_RANGES:
                ranges = {"p": p, "q": q}
                for number, rule in enumerate(system.rules):
                    values = self.told_by_values(rule, ranges)
                    told = gives(system, ranges, number)
                    self.assertIs(counts(system, ranges, number), bool(values), (ranges, number))
                    self.assertEqual(told is None, not values, (ranges, number))
                    if values and None not in told:
                        self.assertEqual(told, (values[0], values[-1]), (ranges, number))
                self.assertEqual(ranges, {"p": p, "q": q})
                self.assertEqual(system, small())

    def test_made_systems(self):
        for number, system in enumerate(made_systems(300)):
            ranges = made_ranges(random.Random(number), system.names)
            before = dict(ranges)
            for at, rule in enumerate(system.rules):
                self.assertIs(counts(system, ranges, at), naive.does_count(rule, ranges))
                self.assertEqual(gives(system, ranges, at), naive.given(rule, ranges))
            self.assertEqual(ranges, before)

    def test_each_kind_of_rule(self):
        system = System(["x", "y"], [
            ("set", "x", (2, None), ()),
            ("set", "x", ALL, (("y", (4, 9)), ("x", (None, 0)))),
            ("step", "x", "y", 3, -1, ALL, ()),
            ("step", "x", "y", -9, FAR, (-FAR, 5), (("x", (0, 0)),)),
            ("step", "y", "y", 2, 0, (7, 7), ()),
        ])
        cases = [
            ({"x": None, "y": None}, [(2, None), None, None, None, None]),
            ({"x": (0, 0), "y": (9, 20)}, [(2, None), ALL, (26, 59), None, None]),
            ({"x": (1, 8), "y": (None, 3)}, [(2, None), None, (None, 8), None, None]),
            ({"x": (-1, 1), "y": (5, None)}, [(2, None), ALL, (14, None), (FAR - 45, FAR - 45), (14, 14)]),
            ({"x": ALL, "y": (None, 7)}, [(2, None), ALL, (None, 20), (FAR - 45, 10 * FAR), (14, 14)]),
            ({"x": (0, 0), "y": ALL}, [(2, None), ALL, ALL, (FAR - 45, 10 * FAR), (14, 14)]),
        ]
        for ranges, expected in cases:
            self.assertEqual([gives(system, ranges, number) for number in range(5)], expected, ranges)
            self.assertEqual([counts(system, ranges, number) for number in range(5)], [
                one is not None for one in expected
            ], ranges)

    def test_two_conditions_of_one_variable_may_hold_at_different_integers(self):
        system = System(["x"], [("set", "x", (1, 1), (("x", (0, 0)), ("x", (5, 9))))])
        self.assertTrue(counts(system, {"x": (0, 5)}, 0))
        self.assertFalse(counts(system, {"x": (1, 9)}, 0))
        self.assertFalse(counts(system, {"x": (0, 4)}, 0))

    def test_by_name(self):
        ranges = {"x": (0, 60), "y": None}
        self.assertIs(counts(system=climb(), ranges=ranges, number=2), True)
        self.assertEqual(gives(number=2, ranges=ranges, system=climb()), (-60, -50))

    def test_numbers_that_are_not_there(self):
        ranges = {"x": None, "y": None}
        for function in [counts, gives]:
            for wrong in [-1, 3, -3, FAR]:
                with self.assertRaises(InvalidRule) as caught:
                    function(climb(), ranges, wrong)
                self.assertEqual(caught.exception.value, wrong)
            with self.assertRaises(InvalidRule) as caught:
                function(System(["x"], []), {"x": None}, 0)
            self.assertEqual(caught.exception.value, 0)


class IsHolding(unittest.TestCase):
    def test_holdings_and_what_lacks_a_little(self):
        for ranges, expected in [
            ({"x": (0, 103), "y": (-103, -50)}, True),
            ({"x": ALL, "y": ALL}, True),
            ({"x": (None, 103), "y": (-103, None)}, True),
            ({"x": (-1, 200), "y": (-200, -50)}, True),
            ({"x": (0, 102), "y": (-103, -50)}, False),
            ({"x": (1, 103), "y": (-103, -50)}, False),
            ({"x": (0, 103), "y": (-102, -50)}, False),
            ({"x": (0, 103), "y": (-103, -51)}, False),
            ({"x": None, "y": None}, False),
            ({"x": (0, None), "y": (-103, -50)}, False),
        ]:
            before = dict(ranges)
            self.assertIs(is_holding(climb(), ranges), expected, ranges)
            self.assertEqual(ranges, before)

    def test_other_names(self):
        for ranges in [{}, {"x": ALL}, {"y": ALL}, {"x": ALL, "z": ALL}, {"x": ALL, "y": ALL, "z": None}, {"": ALL}]:
            self.assertIs(is_holding(climb(), ranges), False, ranges)

    def test_refused_ranges(self):
        self.assertIs(is_holding(climb(), {"x": ALL, "y": (1, 0)}), False)
        self.assertIs(is_holding(climb(), {"x": (FAR, -FAR), "y": ALL}), False)
        self.assertIs(is_holding(System(["x"], []), {"x": (0, -1)}), False)
        self.assertIs(is_holding(System(["x"], []), {"z": (0, -1)}), False)

    def test_no_rules(self):
        for one in [None, (0, 0), (None, 5), ALL]:
            self.assertIs(is_holding(System(["x"], []), {"x": one}), True)

    def test_by_name(self):
        self.assertIs(is_holding(ranges={"x": ALL, "y": ALL}, system=climb()), True)

    def test_made_systems(self):
        found = {True: 0, False: 0}
        for number, system in enumerate(made_systems(400, most_rules=4)):
            ranges = made_ranges(random.Random(number), system.names)
            expected = naive.is_kept(system, ranges)
            self.assertIs(is_holding(system, ranges), expected, number)
            found[expected] += 1
        self.assertGreater(min(found.values()), 30)


class LeastHolding(unittest.TestCase):
    def is_least(self, system, expected):
        self.assertEqual(least_holding(system), expected)
        self.assertTrue(is_holding(system, expected))
        self.assertTrue(naive.is_least(system, expected, derivation(system)))

    def x_becomes(self, rules, expected):
        self.is_least(System(["x"], rules), {"x": expected})

    def test_no_rule_counts(self):
        self.is_least(System(["x", "y"], []), {"x": None, "y": None})
        self.is_least(System(["x", "y"], [step("x", "y", 1, 0), step("y", "x", 1, 0)]), {"x": None, "y": None})
        self.is_least(System(["x", "y"], [("set", "y", ALL, (("x", ALL),))]), {"x": None, "y": None})

    def test_sets(self):
        self.x_becomes([one_set(3, 3), one_set(-FAR, -FAR)], (-FAR, 3))
        self.x_becomes([one_set(3, None), one_set(5, 9)], (3, None))
        self.x_becomes([one_set(None, 3), one_set(5, None)], ALL)

    def test_loops_that_add(self):
        self.x_becomes([one_set(0, 0), step("x", "x", 1, 3, (None, 100))], (0, 103))
        self.x_becomes([one_set(0, 0), step("x", "x", 1, 1, (None, FAR))], (0, FAR + 1))
        self.x_becomes([one_set(0, 1), step("x", "x", 1, -7, (-FAR, None))], (-FAR - 7, 1))
        self.x_becomes([one_set(-FAR, -FAR), step("x", "x", 1, 1, (-FAR, FAR - 1))], (-FAR, FAR))
        self.x_becomes([one_set(0, 0), step("x", "x", 1, 1)], (0, None))
        self.x_becomes([one_set(0, 0), step("x", "x", 1, -1, (-5, 5)), step("x", "x", 1, 2, (None, 9))], (-6, 11))
        self.x_becomes([one_set(0, 0), step("x", "x", 1, 0)], (0, 0))

    def test_loops_that_are_cut_where_they_do_not_begin(self):
        # The lows of within do not stop what climbs, and nothing below them is read.
        self.x_becomes([one_set(0, 9), step("x", "x", 1, 3, (8, 20))], (0, 23))
        self.x_becomes([one_set(0, 9), step("x", "x", 1, 3, (10, 20))], (0, 9))
        self.x_becomes([one_set(0, 9), step("x", "x", 1, 3, (None, -1))], (0, 9))
        self.x_becomes([one_set(0, 9), step("x", "x", 1, 3, (None, 0))], (0, 9))
        self.x_becomes([one_set(0, 9), step("x", "x", 1, 30, (None, 0))], (0, 30))

    def test_loops_that_multiply(self):
        self.x_becomes([one_set(1, 1), step("x", "x", 9, 0, (None, FAR))], (1, 9 * FAR))
        self.x_becomes([one_set(-1, 1), step("x", "x", 2, 0, (-FAR, 7))], (-2 * FAR, 14))
        self.x_becomes([one_set(0, 0), step("x", "x", 9, 0)], (0, 0))
        self.x_becomes([one_set(1, 1), step("x", "x", 2, 0)], (1, None))

    def test_loops_that_multiply_and_stand_still_at_one_number(self):
        grow_from_ten = step("x", "x", 2, -10)
        self.x_becomes([one_set(10, 10), grow_from_ten], (10, 10))
        self.x_becomes([one_set(11, 11), grow_from_ten], (11, None))
        self.x_becomes([one_set(9, 9), grow_from_ten], (None, 9))
        self.x_becomes([one_set(9, 11), grow_from_ten], ALL)
        self.x_becomes([one_set(FAR, FAR), step("x", "x", 9, -8 * FAR)], (FAR, FAR))
        self.x_becomes([one_set(FAR, FAR), step("x", "x", 9, -8 * FAR + 1)], (FAR, None))

    def test_loops_with_a_factor_below_zero(self):
        self.x_becomes([one_set(0, 0), step("x", "x", -1, 5)], (0, 5))
        self.x_becomes([one_set(0, 0), step("x", "x", -2, 1)], ALL)
        self.x_becomes([one_set(0, 0), step("x", "x", -2, 0)], (0, 0))
        # Highs to 100 give lows to -200, and lows to -50 give highs to 101.
        self.x_becomes([one_set(1, 1), step("x", "x", -2, 1, (-50, 100))], (-199, 101))
        self.x_becomes([one_set(1, 1), step("x", "x", -9, 0, (-FAR, None))], (-81 * FAR, 9 * FAR))

    def test_loops_through_several_variables(self):
        self.is_least(System(["x", "y"], [
            one_set(1, 1), step("y", "x", -1, 0), step("x", "y", -3, 0, (-100, None)),
        ]), {"x": (1, 300), "y": (-300, -1)})
        self.is_least(System(["x", "y", "z"], [
            one_set(5, 5), step("y", "x", 1, 7), step("z", "y", -1, 0, (None, FAR)), step("x", "z", -1, -6),
        ]), {"x": (5, FAR - 6), "y": (12, FAR + 1), "z": (-FAR, -12)})
        self.is_least(System(["x", "y"], [
            one_set(0, 0), step("y", "x", 1, 1), step("x", "y", 1, -1),
        ]), {"x": (0, 0), "y": (1, 1)})

    def test_a_loop_of_all_ends_of_six_variables(self):
        names = ["a", "b", "c", "d", "e", "f"]
        ring = [step(names[(k + 1) % 6], names[k], -2 if k == 0 else 1, 0, (None, FAR)) for k in range(6)]
        system = System(names, ring + [("set", "d", (1, 1), ())])
        # No low is cut, so each high that is cut comes back through the lows.
        self.is_least(system, {
            "a": (-2 * FAR, FAR), "b": (-2 * FAR, 4 * FAR), "c": (-2 * FAR, FAR),
            "d": (-2 * FAR, FAR), "e": (-2 * FAR, FAR), "f": (-2 * FAR, FAR),
        })
        free = System(names, [("step", x, y, factor, 0, ALL, ()) for _, x, y, factor, _, _, _ in ring])
        self.is_least(free.with_rule(("set", "d", (1, 1), ())), {name: ALL for name in names})
        self.is_least(free.with_rule(("set", "d", (0, 0), ())), {name: (0, 0) for name in names})

    def test_conditions_that_begin_to_hold_late(self):
        loop = [one_set(0, 0), step("x", "x", 1, 1, (None, FAR))]
        late = ("set", "y", (7, 7), (("x", (FAR + 1, None)),))
        never = ("set", "y", (7, 7), (("x", (FAR + 2, None)),))
        self.is_least(System(["x", "y"], loop + [late]), {"x": (0, FAR + 1), "y": (7, 7)})
        self.is_least(System(["x", "y"], loop + [never]), {"x": (0, FAR + 1), "y": None})

    def test_conditions_that_are_jumped_over(self):
        loop = [one_set(0, 0), step("x", "x", 1, 10, (None, 55))]
        over = ("set", "y", (7, 7), (("x", (32, 33)), ("x", (64, 65))))
        self.is_least(System(["x", "y"], loop + [over]), {"x": (0, 65), "y": (7, 7)})
        beyond = ("set", "y", (7, 7), (("x", (32, 33)), ("x", (66, 69))))
        self.is_least(System(["x", "y"], loop + [beyond]), {"x": (0, 65), "y": None})

    def test_one_loop_that_opens_the_next_one(self):
        self.is_least(System(["x", "y", "z"], [
            step("z", "z", 2, 0, (None, FAR), ("y", (None, -1000))),
            ("set", "z", (1, 1), (("y", (-1000, -1000)),)),
            step("y", "y", 1, -1, (-999, None), ("x", (100, None))),
            ("set", "y", (0, 0), ()),
            step("x", "x", 1, 3, (None, 100)),
            one_set(0, 0),
            step("x", "z", 1, 0, (FAR, None), ("z", (2 * FAR, 2 * FAR))),
        ]), {"x": (0, 2 * FAR), "y": (-1000, 0), "z": (1, 2 * FAR)})

    def test_a_loop_with_a_condition_over_what_it_changes(self):
        self.x_becomes([one_set(0, 0), step("x", "x", 1, 4, ALL, ("x", (None, 9)))], (0, None))
        self.x_becomes([one_set(0, 0), step("x", "x", 1, 4, ALL, ("x", (9, None)))], (0, 0))
        self.x_becomes([one_set(0, 0), one_set(9, 9), step("x", "x", 1, 4, ALL, ("x", (8, 8)))], (0, None))

    def test_missing_bounds_are_cut_by_within(self):
        self.is_least(System(["x", "y", "z"], [
            ("set", "x", ALL, ()), step("y", "x", -3, 1, (-2, 5)), step("z", "x", 2, 0, (None, 4)),
        ]), {"x": ALL, "y": (-14, 7), "z": (None, 8)})

    def test_the_result_is_new(self):
        system = busy()
        first = least_holding(system)
        second = dict(first)
        first.clear()
        self.assertEqual(least_holding(system=system), second)
        self.assertEqual(system, busy())

    def test_more_names_and_rules_than_the_bounds(self):
        names = [letter * 3 for letter in "abcdefgh"]
        ring = [step(names[(k + 1) % 8], names[k], 1, 1, (None, 10 ** 50)) for k in range(8)]
        rules = [("set", "aaa", (0, 0), ())] + ring + [("set", "bbb", (1, 1), ())] * 6
        self.is_least(System(names, rules), {
            name: (k, 10 ** 50 + 1) for k, name in enumerate(names)
        })

    def test_made_systems_with_small_numbers(self):
        # All ends are cut, so applying all rules again and again comes to rest.
        for number, system in enumerate(made_systems(150, most_names=3, most_rules=6, far=100)):
            rules = [
                (*rule[:-2], naive.both(rule[-2], (-99, 99)), rule[-1])
                for rule in system.rules if naive.both(rule[-2], (-99, 99)) is not None
            ]
            ranges = {name: None for name in system.names}
            before = None
            while before != ranges:
                before = dict(ranges)
                for rule in rules:
                    ranges[rule[1]] = naive.hull(ranges[rule[1]], naive.given(rule, ranges))
            self.assertEqual(least_holding(System(system.names, rules)), ranges, number)

    def test_made_systems(self):
        for number, system in enumerate(made_systems(1500)):
            rules = system.rules
            told = least_holding(system)
            self.assertTrue(naive.is_least(system, told, derivation(system)), number)
            self.assertTrue(is_holding(system, told), number)
            self.assertEqual(list(told), system.names)
            self.assertEqual(system.rules, rules)


class SingleValues(unittest.TestCase):
    def test_values_that_the_rules_give_are_in_the_ranges(self):
        for number, system in enumerate(made_systems(150, far=100)):
            ranges = least_holding(system)
            source = random.Random(number)
            values = {name: None for name in system.names}
            for _ in range(60):
                rule = source.choice(system.rules)
                read = [name for name, _ in rule[-1]] + ([] if rule[0] == "set" else [rule[2]])
                if any(values[name] is None for name in read):
                    continue
                value = source.randint(-100, 100) if rule[0] == "set" else rule[3] * values[rule[2]] + rule[4]
                if allows(rule, values, value):
                    values[rule[1]] = value
                    self.assertTrue(is_in(value, ranges[rule[1]]), number)


if __name__ == "__main__":
    unittest.main()
