"""Points 7, 8 and 10, and the section tightranges/moves.py."""

import random
import unittest

from tests import naive
from tests.making import made_move, made_systems
from tests.samples import FAR, busy, climb
from tightranges.holdings import least_holding
from tightranges.moves import derivation, follows, is_derivation
from tightranges.systems import System

ALL = (None, None)


def one_set(low, high):
    return ("set", "x", (low, high), ())


def step(x, y, factor, add, within=ALL, *conditions):
    return ("step", x, y, factor, add, within, conditions)


class Examples(unittest.TestCase):
    def test_of_the_document(self):
        climb = System(["x"], [("set", "x", (0, 0), ()), ("step", "x", "x", 1, 3, (None, 100), ())])
        swing = System(["x"], [("set", "x", (0, 0), ()), ("step", "x", "x", -2, 1, (None, None), ())])
        told = [
            follows(climb, [("rule", 0), ("round", (1,), "high", 4)]),
            is_derivation(climb, [("rule", 0), ("round", (1,), "high", 35)]),
            follows(climb, [("rule", 1)]),
            is_derivation(climb, derivation(climb)),
            follows(swing, [("rule", 0), ("rule", 1), ("rule", 1)]),
            is_derivation(swing, [("rule", 0), ("rule", 1), ("grow", (1, 1), "high"), ("rule", 1)]),
            is_derivation(swing, derivation(swing)),
        ]
        self.assertEqual(told, [{"x": (0, 12)}, True, None, True, {"x": (-1, 1)}, True, True])


class MoveTest(unittest.TestCase):
    def leads_to(self, system, moves, ranges):
        """Ranges of all names, or those of x alone, or None if a move is none."""
        expected = {"x": ranges} if isinstance(ranges, tuple) else ranges
        before = list(moves)
        told = follows(system, moves)
        self.assertEqual(told, expected, moves)
        self.assertEqual(moves, before)
        self.assertIs(is_derivation(system, moves), expected == least_holding(system), moves)
        if all(len(move) < 4 or move[3] < 10 ** 4 for move in moves):
            self.assertEqual(naive.after_moves(system, moves), expected, moves)


class Rules(MoveTest):
    def test_no_moves(self):
        self.leads_to(climb(), [], {"x": None, "y": None})
        self.leads_to(System(["x"], []), [], {"x": None})

    def test_each_kind_of_rule(self):
        system = System(["x", "y"], [
            ("set", "x", (-5, 8), ()),
            ("step", "y", "x", -3, 1, (None, 6), (("x", (8, None)),)),
            ("set", "y", (None, -99), (("y", (-17, 0)),)),
        ])
        self.leads_to(system, [("rule", 0)], {"x": (-5, 8), "y": None})
        self.leads_to(system, [("rule", 0), ("rule", 1)], {"x": (-5, 8), "y": (-17, 16)})
        self.leads_to(system, [("rule", 0), ("rule", 1), ("rule", 2)], {"x": (-5, 8), "y": (None, 16)})

    def test_a_rule_that_changes_nothing(self):
        system = System(["x"], [one_set(0, 9), one_set(3, 4)])
        self.leads_to(system, [("rule", 0), ("rule", 1), ("rule", 0)], (0, 9))
        self.leads_to(system, [("rule", 1), ("rule", 1)], (3, 4))

    def test_a_step_takes_both_ends_at_once(self):
        system = System(["x"], [one_set(1, 3), step("x", "x", -2, 0)])
        self.leads_to(system, [("rule", 0), ("rule", 1)], (-6, 3))
        self.leads_to(system, [("rule", 0), ("rule", 1), ("rule", 1)], (-6, 12))

    def test_rules_that_do_not_count(self):
        system = System(["x", "y"], [
            one_set(0, 0), step("x", "y", 1, 0), step("x", "x", 1, 0, (1, None)), ("set", "x", ALL, (("x", (1, 1)),)),
        ])
        for number in [1, 2, 3]:
            self.leads_to(system, [("rule", 0), ("rule", number)], None)
        self.leads_to(system, [("rule", 1), ("rule", 0)], None)

    def test_numbers_of_no_rule(self):
        for number in [-1, -2, 2, FAR, -FAR]:
            self.leads_to(System(["x"], [one_set(0, 0), one_set(1, 1)]), [("rule", number)], None)
        self.leads_to(System(["x"], []), [("rule", 0)], None)


class Rounds(MoveTest):
    def climb(self, factor=1, add=3, within=(None, 100)):
        return System(["x"], [one_set(1, 2), step("x", "x", factor, add, within)])

    def turn(self, system, *move):
        return [("rule", number) for number in range(len(system)) if system.rules[number][0] == "set"] + [move]

    def becomes(self, system, move, ranges):
        self.leads_to(system, self.turn(system, *move), ranges)

    def test_times(self):
        for times, high in [(1, 5), (2, 8), (32, 98), (33, 101), (34, 103), (35, 103), (200, 103), (201, 103)]:
            self.becomes(self.climb(), ("round", (1,), "high", times), (1, high))
        for times in [0, -1, -FAR]:
            self.becomes(self.climb(), ("round", (1,), "high", times), None)

    def test_a_round_changes_one_end_only(self):
        system = self.climb(factor=2, add=-9, within=ALL)
        self.becomes(system, ("round", (1,), "low", 3), (-55, 2))
        self.becomes(system, ("round", (1,), "high", 3), (1, 2))

    def test_many_times(self):
        free = self.climb(within=ALL)
        self.becomes(free, ("round", (1,), "high", FAR), (1, 2 + 3 * FAR))
        self.becomes(free, ("round", (1,) * 12, "high", FAR), (1, 2 + 36 * FAR))
        self.becomes(self.climb(within=(None, FAR)), ("round", (1,), "high", FAR), (1, FAR + 3))
        self.becomes(self.climb(add=-1, within=(-FAR, None)), ("round", (1,), "low", 2 * FAR), (-FAR - 1, 2))
        swing = System(["x", "y"], [
            one_set(0, 0), step("y", "x", -1, 4), step("x", "y", -1, 5, (-FAR, None)), ("set", "y", (0, 0), ()),
        ])
        self.becomes(swing, ("round", (1, 2), "high", 5 * 10 ** 20), {"x": (0, 5 * 10 ** 20), "y": (0, 0)})
        self.becomes(swing, ("round", (1, 2), "high", 2 * FAR), {"x": (0, FAR + 5), "y": (0, 0)})

    def test_at_most_200_times_unless_all_factors_are_1_or_minus_1(self):
        for system in [self.climb(factor=2), self.climb(factor=2, within=ALL)]:
            self.assertIsNotNone(follows(system, self.turn(system, "round", (1,), "high", 200)))
            self.becomes(system, ("round", (1,), "high", 201), None)
            self.becomes(system, ("round", (1,), "high", FAR), None)
        mixed = System(["x"], [one_set(1, 2), step("x", "x", 1, 1), step("x", "x", 3, 0), step("x", "x", -1, 0)])
        self.becomes(mixed, ("round", (1, 2), "high", 201), None)
        self.becomes(mixed, ("round", (3, 3, 1), "high", 201), (1, 203))
        doubled = System(["x"], [one_set(1, 1), step("x", "x", 2, 0)])
        self.becomes(doubled, ("round", (1,), "high", 200), (1, 2 ** 200))
        self.becomes(doubled, ("round", (1,) * 12, "high", 200), (1, 2 ** 2400))

    def test_lengths(self):
        self.becomes(self.climb(), ("round", (), "high", 1), None)
        self.becomes(self.climb(), ("round", (1,) * 11, "high", 1), (1, 35))
        self.becomes(self.climb(), ("round", (1,) * 12, "high", 1), (1, 38))
        self.becomes(self.climb(), ("round", (1,) * 13, "high", 1), None)
        self.becomes(self.climb(within=ALL), ("grow", (1,) * 12, "high"), (1, None))
        self.becomes(self.climb(within=ALL), ("grow", (1,) * 13, "high"), None)
        self.becomes(self.climb(within=ALL), ("grow", (), "high"), None)

    def test_numbers_of_no_step(self):
        for numbers in [(0,), (2,), (-1,), (1, 0), (1, -1), (1, 2, 1), (FAR,)]:
            self.becomes(self.climb(within=ALL), ("round", numbers, "high", 1), None)
            self.becomes(self.climb(within=ALL), ("grow", numbers, "high"), None)

    def test_sides(self):
        for side in ["", "up", "High", "hig", "lowhigh", " low"]:
            self.becomes(self.climb(within=ALL), ("round", (1,), side, 1), None)
            self.becomes(self.climb(within=ALL), ("grow", (1,), side), None)

    def test_steps_that_are_not_linked(self):
        system = System(["x", "y"], [
            one_set(1, 1), ("set", "y", (1, 1), ()), step("y", "x", 1, 2), step("x", "y", 1, 3), step("x", "x", 1, 4),
        ])
        both = {"x": (1, 6), "y": (1, 1)}
        self.becomes(system, ("round", (2, 3), "high", 1), both)
        self.becomes(system, ("round", (3, 2), "high", 1), {"x": (1, 1), "y": (1, 6)})
        self.becomes(system, ("round", (2, 3, 4), "high", 1), {"x": (1, 10), "y": (1, 1)})
        self.becomes(system, ("round", (3, 4, 4, 2), "high", 2), {"x": (1, 1), "y": (1, 27)})
        for numbers in [(2,), (3,), (3, 3), (2, 4), (4, 3), (2, 3, 2), (2, 4, 3), (3, 4), (2, 2)]:
            self.becomes(system, ("round", numbers, "high", 1), None)
            self.becomes(system, ("grow", numbers, "high"), None)

    def test_an_even_number_of_factors_below_zero(self):
        system = System(["x"], [one_set(0, 0), step("x", "x", -2, 1), step("x", "x", 3, 5)])
        for numbers in [(1,), (1, 2), (2, 1, 2), (1, 1, 1)]:
            self.becomes(system, ("round", numbers, "high", 1), None)
            self.becomes(system, ("grow", numbers, "low"), None)
        self.becomes(system, ("round", (1, 2, 1), "high", 1), (0, 0))
        self.becomes(system, ("round", (1, 2, 1), "low", 2), (-15 - 12 * 15, 0))
        self.becomes(system, ("round", (1, 1), "low", 1), (-1, 0))

    def test_all_steps_must_count(self):
        system = System(["x", "y"], [
            one_set(1, 1), step("y", "x", 1, 2), step("x", "y", 1, 3),
            step("x", "x", 1, 1, (2, None)), step("x", "x", 1, 1, ALL, ("y", (0, 9))),
        ])
        self.becomes(system, ("round", (1, 2), "high", 1), None)
        self.becomes(system, ("grow", (1, 2), "high"), None)
        self.becomes(system, ("round", (3,), "high", 1), None)
        self.becomes(system, ("round", (4,), "high", 1), None)
        moves = [("rule", 0), ("rule", 1), ("round", (1, 2), "high", 1), ("round", (3, 4), "high", 1)]
        self.leads_to(system, moves, {"x": (1, 8), "y": (3, 3)})

    def test_ends_are_put_to_the_bounds_on_their_sides(self):
        system = System(["x", "y"], [
            one_set(-4, 4), ("set", "y", (-4, 4), ()), step("y", "x", -3, 1, (-2, 10)), step("x", "y", -2, 0, (-20, 7)),
        ])
        # A high goes on as a low behind the first step, and the other way about.
        for side, times, one in [
            ("high", 1, (-4, 22)), ("high", 2, (-4, 40)), ("high", 9, (-4, 40)),
            ("low", 1, (-14, 4)), ("low", 9, (-14, 4)),
        ]:
            self.becomes(system, ("round", (2, 3), side, times), {"x": one, "y": (-4, 4)})
        self.becomes(system, ("round", (3, 2), "high", 9), {"x": (-4, 4), "y": (-4, 7)})

    def test_an_end_on_its_way_may_lie_outside_of_the_ranges(self):
        system = System(["x", "y"], [
            one_set(0, 1), ("set", "y", (50, 60), ()), step("y", "x", 1, 2), step("x", "y", 1, 3, (40, 70)),
        ])
        # What is read of y is 3 at first, below all of its range and all of within.
        self.becomes(system, ("round", (2, 3), "high", 1), {"x": (0, 6), "y": (50, 60)})
        self.becomes(system, ("round", (2, 3), "high", 99), {"x": (0, 73), "y": (50, 60)})

    def test_a_round_by_which_the_range_does_not_grow(self):
        for add in [0, -3]:
            for within in [ALL, (None, 100), (None, 1)]:
                for times in [1, 7, FAR]:
                    self.becomes(self.climb(add=add, within=within), ("round", (1,), "high", times), (1, 2))
        self.becomes(self.climb(within=(None, -1)), ("round", (1,), "high", 1), None)
        self.becomes(self.climb(add=1, within=(None, 1)), ("round", (1,), "high", 5), (1, 2))
        self.becomes(self.climb(factor=3, add=-4, within=ALL), ("round", (1,), "high", 5), (1, 2))

    def test_missing_ends(self):
        for within in [ALL, (None, 50), (None, FAR)]:
            system = System(["x"], [one_set(0, None), step("x", "x", 2, 3, within)])
            self.becomes(system, ("round", (1,), "high", 7), (0, None))
            self.becomes(system, ("grow", (1,), "high"), None)
        # A missing end on its way is put to a bound: the low of y stands for none of x.
        system = System(["x", "y"], [
            one_set(0, 5), ("set", "y", (None, 0), ()), step("y", "x", -1, 0), step("x", "y", -1, 1, (-9, None)),
        ])
        self.becomes(system, ("round", (2, 3), "high", 99), {"x": (0, 10), "y": (None, 0)})
        self.becomes(system, ("round", (3, 2), "low", 99), {"x": (0, 5), "y": (None, 0)})

    def test_one_wrong_move_among_others(self):
        system = self.climb()
        moves = [("rule", 0), ("round", (1,), "high", 35)]
        self.assertTrue(is_derivation(system, moves))
        for wrong in [("rule", 2), ("round", (1,), "high", 0), ("grow", (1,), "high")]:
            for at in range(3):
                self.leads_to(system, moves[:at] + [wrong] + moves[at:], None)


class Growing(MoveTest):
    def after(self, system, move, ranges):
        moves = [("rule", number) for number, rule in enumerate(system.rules) if rule[0] == "set"]
        self.leads_to(system, moves + [move], ranges)

    def test_bounds_of_within(self):
        for within, high, low in [(ALL, (0, None), None), ((0, None), (0, None), None), ((None, 9), None, None)]:
            system = System(["x"], [one_set(0, 0), step("x", "x", 1, 1, within)])
            self.after(system, ("grow", (1,), "high"), high)
            self.after(system, ("grow", (1,), "low"), low)
        for within, low in [(ALL, (None, 0)), ((None, 0), (None, 0)), ((-FAR, None), None)]:
            self.after(System(["x"], [one_set(0, 0), step("x", "x", 5, -1, within)]), ("grow", (1,), "low"), low)

    def test_bounds_on_the_side_of_each_end_that_is_read(self):
        for first, second, possible in [
            (ALL, ALL, True), ((-9, None), (None, 9), True), ((None, 9), ALL, False), (ALL, (-9, None), False),
            ((-9, 9), (None, 9), False), ((-9, None), (-9, 9), False),
        ]:
            system = System(["x", "y"], [
                one_set(0, 0), ("set", "y", (0, 0), ()), step("y", "x", -1, 0, first), step("x", "y", -1, 1, second),
            ])
            self.after(system, ("grow", (2, 3), "high"), {"x": (0, None), "y": (0, 0)} if possible else None)
            self.after(system, ("grow", (3, 2), "low"), {"x": (0, 0), "y": (None, 0)} if possible else None)
            self.after(system, ("grow", (2, 3), "low"), None)

    def test_rounds_that_do_not_grow(self):
        for factor, add in [(1, 0), (1, -1), (2, -10), (9, -9 * FAR)]:
            system = System(["x"], [one_set(0, 10), step("x", "x", factor, add)])
            self.after(system, ("grow", (1,), "high"), None)
        system = System(["x"], [one_set(0, 11), step("x", "x", 2, -10)])
        self.after(system, ("grow", (1,), "high"), (0, None))
        self.after(system, ("grow", (1,), "low"), (None, 11))

    def test_the_other_end_may_be_missing(self):
        system = System(["x"], [one_set(None, 0), step("x", "x", 1, 1)])
        self.after(system, ("grow", (1,), "high"), ALL)
        self.after(system, ("grow", (1,), "low"), None)

    def test_conditions(self):
        for one, possible in [((0, 0), True), ((1, 1), False), ((None, -1), False)]:
            system = System(["x"], [one_set(0, 0), step("x", "x", 1, 1, ALL, ("x", ALL), ("x", one))])
            self.after(system, ("grow", (1,), "high"), (0, None) if possible else None)


class Follows(MoveTest):
    def test_by_name(self):
        system = System(["x"], [one_set(0, 0)])
        self.assertEqual(follows(moves=[("rule", 0)], system=system), {"x": (0, 0)})
        self.assertIs(is_derivation(moves=[("rule", 0)], system=system), True)
        self.assertIs(is_derivation(moves=[], system=system), False)
        self.assertEqual(derivation(system=system), [("rule", 0)])

    def test_many_long_moves(self):
        system = System(["x"], [one_set(2, 2), step("x", "x", 9, 1)])
        moves = [("rule", 0)] + [("round", (1,) * 12, "high", 200)] * 30
        times = 12 * 200 * 30
        self.assertEqual(follows(system, moves)["x"], (2, 2 * 9 ** times + (9 ** times - 1) // 8))

    def test_made_moves(self):
        found = {"no move": 0, "nothing": 0, "rule": 0, "round": 0, "grow": 0}
        for number, system in enumerate(made_systems(2500)):
            source = random.Random(number)
            moves = derivation(system)
            moves = moves[:source.randint(0, len(moves))]
            ranges = naive.after_moves(system, moves)
            for _ in range(8):
                move = made_move(source, system)
                expected = naive.after_move(system.rules, ranges, move)
                self.assertEqual(follows(system, moves + [move]), expected, (number, moves, move))
                kind = "no move" if expected is None else "nothing" if expected == ranges else move[0]
                found[kind] += 1
                if expected is not None:
                    moves.append(move)
                    ranges = expected
        self.assertGreater(min(found.values()), 20, found)


class Derivations(unittest.TestCase):
    def is_shown(self, system):
        """The returned derivation leads to a holding, by moves that go beyond none; so this is the least one."""
        before = system.rules
        moves = derivation(system)
        told = list(moves)
        ranges = follows(system, moves)
        self.assertEqual(ranges, least_holding(system))
        self.assertTrue(naive.is_least(system, ranges, moves))
        self.assertIs(is_derivation(system, moves), True)
        self.assertEqual(moves, told)
        self.assertEqual(system.rules, before)
        moves.clear()
        self.assertEqual(derivation(system), told)
        for move in told:
            self.assertIsInstance(move, tuple)
            self.assertIn((move[0], len(move)), [("rule", 2), ("round", 4), ("grow", 3)])

    def test_samples(self):
        for system in [busy(), climb(), System(["x"], []), busy().mirrored(), busy().stretched(FAR)]:
            self.is_shown(system)

    def test_rounds_that_take_many_times(self):
        for rules in [
            [one_set(0, 0), step("x", "x", 1, 1, (None, FAR))],
            [one_set(FAR, FAR), step("x", "x", 1, -1, (-FAR, None))],
            [one_set(1, 1), step("x", "x", 2, 0, (None, FAR))],
            [one_set(1, 1), step("x", "x", 2, -1, (None, FAR)), one_set(2, 2)],
            [one_set(1, 1), step("x", "x", -2, 0, (-FAR, FAR))],
            [one_set(-FAR, -FAR), step("x", "x", 2, FAR + 1, (None, FAR))],
            # Beyond the bounds of point 2: 1000 doublings, in moves of at most 200 times.
            [one_set(1, 1), step("x", "x", 2, 0, (None, 2 ** 1000))],
        ]:
            self.is_shown(System(["x"], rules))

    def test_rounds_of_twelve_steps(self):
        names = ["a", "b", "c", "d", "e", "f"]
        for within in [ALL, (None, FAR), (-FAR, FAR)]:
            ring = [("set", "d", (1, 1), ())]
            ring += [step(names[(k + 1) % 6], names[k], -2 if k == 0 else 1, 0, within) for k in range(6)]
            system = System(names, ring)
            self.is_shown(system)
            self.assertIn(12, [len(move[1]) for move in derivation(system) if move[0] != "rule"])

    def test_rules_in_any_sequence(self):
        rules = busy().rules
        for number in range(30):
            random.Random(number).shuffle(rules)
            self.is_shown(System(["a", "b", "c"], rules))

    def test_made_systems(self):
        for system in made_systems(1500):
            self.is_shown(system)

    def test_less_than_a_derivation(self):
        shorter = 0
        for system in made_systems(200):
            moves = derivation(system)
            self.assertFalse(is_derivation(system, []))
            shorter += is_derivation(system, moves[:-1])
        self.assertEqual(shorter, 0)


if __name__ == "__main__":
    unittest.main()
