"""Points 2, 3 and 9, and the section of runs: which lists of moves are runs, and the values behind them."""

import random
import unittest

from tests.making import made_system, made_use
from tests.naive import values_after_rule
from tests.samples import FAR, busy
from tightranges.errors import InvalidMove
from tightranges.runs import is_run, values_behind
from tightranges.systems import System

ALL = (None, None)


def climb():
    return System(["x", "y"], [
        ("set", "x", (0, 1), ()), ("step", "x", "x", 1, 3, (None, 100), ()), ("set", "y", (5, 5), (("x", (4, None)),)),
    ])


class RunTest(unittest.TestCase):
    """Asks for a run twice, so that what the first call left behind would be seen."""

    def leads_to(self, system, moves, values):
        told, rules = list(moves), system.rules
        for _ in range(2):
            self.assertEqual(values_behind(system, moves), values, moves)
            self.assertIs(is_run(system, moves), True, moves)
        self.assertEqual((moves, system.rules), (told, rules))

    def stops_at(self, system, moves, number):
        told, rules = list(moves), system.rules
        for _ in range(2):
            with self.assertRaises(InvalidMove) as caught:
                values_behind(system, moves)
            self.assertEqual(caught.exception.value, number, moves)
            self.assertIs(is_run(system, moves), False, moves)
        self.assertEqual((moves, system.rules), (told, rules))


class Examples(unittest.TestCase):
    def test_of_the_document(self):
        one = climb()
        self.assertEqual(
            [
                values_behind(one, [(0, 1), (1, None), (2, 5)]), values_behind(one, [(0, 0)]),
                is_run(one, [(0, 0), (1, None), (2, 5)]), is_run(one, [(1, None)]),
            ],
            [{"x": 4, "y": 5}, {"x": 0, "y": None}, False, False],
        )


class Runs(RunTest):
    def test_by_name(self):
        self.assertEqual(values_behind(moves=[(0, 1)], system=climb()), {"x": 1, "y": None})
        self.assertIs(is_run(moves=[(0, 1)], system=climb()), True)

    def test_no_moves(self):
        self.leads_to(climb(), [], {"x": None, "y": None})
        self.leads_to(System(["b", "a"], []), [], {"a": None, "b": None})

    def test_numbers_of_no_rule(self):
        for wrong in [-1, -2, -3, 3, 4, FAR, -FAR]:
            for value in [None, 0, 5]:
                self.stops_at(climb(), [(wrong, value)], 0)
                self.stops_at(climb(), [(0, 0), (1, None), (wrong, value), (0, 0)], 2)
        self.stops_at(System(["x"], []), [(0, None)], 0)
        self.stops_at(System(["x"], []), [(-1, None)], 0)

    def test_the_first_one_that_is_not_possible(self):
        moves = [(0, 1), (1, None), (0, 2), (3, None), (1, 1)]
        self.stops_at(climb(), moves, 2)
        self.stops_at(climb(), moves[1:], 0)
        self.stops_at(climb(), [(0, 0)] * 199 + [(0, -1)], 199)

    def test_sets(self):
        for within, inside, outside in [
            ((0, 1), [0, 1], [-1, 2, None]), ((-3, -3), [-3], [-4, -2, 3, None]), (ALL, [0, FAR, -FAR], [None]),
            ((None, 5), [5, 4, -FAR], [6, FAR, None]), ((5, None), [5, FAR], [4, -FAR, None]),
            ((-FAR, FAR), [-FAR, 0, FAR], [-FAR - 1, FAR + 1, None]),
        ]:
            system = System(["x", "y"], [("set", "x", within, ())])
            for value in inside:
                self.leads_to(system, [(0, value)], {"x": value, "y": None})
            for value in outside:
                self.stops_at(system, [(0, value)], 0)

    def test_steps(self):
        for factor, add, value in [(1, 3, 5), (-1, 3, 5), (9, -7, -2), (-9, -FAR, FAR), (2, FAR, -FAR), (1, 0, 0)]:
            system = System(["x", "y"], [("set", "y", ALL, ()), ("step", "x", "y", factor, add, ALL, ())])
            self.leads_to(system, [(0, value), (1, None)], {"x": factor * value + add, "y": value})

    def test_steps_within(self):
        for within, inside, outside in [
            ((0, 1), [0, 1], [-1, 2]), ((-3, -3), [-3], [-4, -2, 3]), ((None, 5), [5, -FAR], [6, FAR]),
            ((5, None), [5, FAR], [4, -FAR]), ((-FAR, FAR), [-FAR, 0, FAR], [-FAR - 1, FAR + 1]),
        ]:
            system = System(["x"], [("set", "x", ALL, ()), ("step", "x", "x", -2, 1, within, ())])
            for value in inside:
                self.leads_to(system, [(0, value), (1, None)], {"x": 1 - 2 * value})
            for value in outside:
                self.stops_at(system, [(0, value), (1, None)], 1)

    def test_steps_have_no_value(self):
        for value in [0, 3, 4, -1, FAR]:
            self.stops_at(climb(), [(0, 1), (1, value)], 1)

    def test_steps_from_a_variable_without_a_value(self):
        system = System(["x", "y"], [("set", "x", (0, 0), ()), ("step", "x", "y", 1, 0, ALL, ())])
        self.stops_at(system, [(0, 0), (1, None)], 1)
        self.stops_at(climb(), [(1, None)], 0)

    def test_conditions(self):
        for one, inside, outside in [
            ((4, None), [4, 5, FAR], [3, -FAR]), ((None, -1), [-1, -FAR], [0, FAR]), ((2, 3), [2, 3], [1, 4]),
            (ALL, [0, FAR, -FAR], []),
        ]:
            system = System(["x", "y"], [
                ("set", "x", ALL, ()), ("set", "y", (7, 7), (("x", one),)), ("step", "y", "x", 1, 1, ALL, (("x", one),)),
            ])
            for value in inside:
                self.leads_to(system, [(0, value), (1, 7)], {"x": value, "y": 7})
                self.leads_to(system, [(0, value), (2, None)], {"x": value, "y": value + 1})
            for value in outside:
                self.stops_at(system, [(0, value), (1, 7)], 1)
                self.stops_at(system, [(0, value), (2, None)], 1)
            # Without a value, x is in no range.
            self.stops_at(system, [(1, 7)], 0)

    def test_all_conditions_must_hold(self):
        conditions = (("x", (0, 5)), ("y", (3, None)))
        system = System(["x", "y", "z"], [
            ("set", "x", ALL, ()), ("set", "y", ALL, ()), ("set", "z", (0, 9), conditions),
            ("step", "z", "z", 1, 1, ALL, (("z", (0, 8)), ("z", (2, 9)))),
        ])
        self.stops_at(system, [(0, 5), (2, 1)], 1)
        self.stops_at(system, [(1, 3), (2, 1)], 1)
        self.stops_at(system, [(0, 6), (1, 3), (2, 1)], 2)
        self.stops_at(system, [(0, 5), (1, 2), (2, 1)], 2)
        self.leads_to(system, [(0, 5), (1, 3), (2, 1)], {"x": 5, "y": 3, "z": 1})
        self.leads_to(system, [(1, 3), (0, 5), (2, 8), (3, None)], {"x": 5, "y": 3, "z": 9})
        for value, possible in [(1, False), (2, True), (8, True), (9, False)]:
            moves = [(0, 0), (1, 3), (2, value), (3, None)]
            self.assertIs(is_run(system, moves), possible)

    def test_conditions_look_at_the_value_of_now(self):
        self.stops_at(climb(), [(0, 1), (2, 5), (1, None)], 1)
        self.leads_to(climb(), [(0, 1), (1, None), (2, 5), (0, 0)], {"x": 0, "y": 5})
        self.stops_at(climb(), [(0, 1), (1, None), (0, 0), (2, 5)], 3)

    def test_a_variable_that_steps_from_itself(self):
        self.leads_to(climb(), [(0, 0)] + [(1, None)] * 34, {"x": 102, "y": None})
        self.stops_at(climb(), [(0, 0)] + [(1, None)] * 35, 35)
        self.leads_to(climb(), [(0, 1)] + [(1, None)] * 34, {"x": 103, "y": None})

    def test_long_runs(self):
        system = System(["x"], [("set", "x", (1, 1), ()), ("step", "x", "x", -9, 0, ALL, ())])
        self.leads_to(system, [(0, 1)] + [(1, None)] * 199, {"x": (-9) ** 199})

    def test_every_answer_is_new(self):
        system = busy()
        values = values_behind(system, [(0, 4)])
        values["a"] = 0
        values["z"] = 0
        self.assertEqual(values_behind(system, [(0, 4)]), {"a": 4, "b": None, "c": None})
        self.assertEqual(system, busy())

    def test_made_runs(self):
        found = {True: 0, False: 0}
        for number in range(400):
            source = random.Random(number)
            system = made_system(number)
            values = {name: None for name in system.names}
            moves = []
            for _ in range(60):
                move = made_use(source, system)
                after = values_after_rule(system.rules, values, move)
                found[after is not None] += 1
                if after is None:
                    self.stops_at(system, moves + [move, (0, 0)], len(moves))
                else:
                    values = after
                    moves.append(move)
            self.leads_to(system, moves, values)
        self.assertGreater(min(found.values()), 3000, found)


if __name__ == "__main__":
    unittest.main()
