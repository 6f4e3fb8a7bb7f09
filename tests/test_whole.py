"""Points 6 to 10 over the whole: what becomes of the least holding and of runs when the system is changed."""

import random
import unittest

from tests.making import made_range, made_rule, made_system, made_systems, made_use
from tests.naive import can_be, hull, is_within, values_after_rule
from tests.samples import FAR, busy
from tightranges.holdings import is_holding, least_holding
from tightranges.moves import derivation, follows
from tightranges.runs import is_run, values_behind
from tightranges.sheets import Sheet
from tightranges.systems import System
from tightranges.texts import show_system

MANY = 400


def each_end(ranges, change):
    """The ranges with all bounds that there are changed by a function of name and bound."""
    return {
        name: one if one is None else tuple(None if bound is None else change(name, bound) for bound in one)
        for name, one in ranges.items()
    }


def lesser_ranges(one):
    """Ranges within a range that lack a little of it, or of which a bound that was missing is far out."""
    if one is None:
        return []
    low, high = one
    cut = [(-10 ** 60 if low is None else low + 1, high), (low, 10 ** 60 if high is None else high - 1)]
    return [None] + [less for less in cut if None in less or less[0] <= less[1]]


def made_run(source, system, many):
    """A run, and the values behind each of its moves."""
    moves, told = [], [{name: None for name in system.names}]
    for _ in range(many):
        move = made_use(source, system)
        values = values_after_rule(system.rules, told[-1], move)
        if values is not None:
            moves.append(move)
            told.append(values)
    return moves, told


class Whole(unittest.TestCase):
    def systems(self, **bounds):
        return list(enumerate(made_systems(MANY, **bounds))) + [(MANY, busy())]

    def becomes(self, system, expected, number):
        self.assertEqual(least_holding(system), expected, number)
        self.assertEqual(follows(system, derivation(system)), expected, number)

    def lies_within(self, ranges, others, number):
        for name, one in ranges.items():
            self.assertTrue(is_within(one, others[name]), (number, name, one, others[name]))

    def test_mirrored(self):
        for number, system in self.systems():
            ranges = each_end(least_holding(system), lambda name, bound: -bound)
            expected = {name: one if one is None else one[::-1] for name, one in ranges.items()}
            self.becomes(system.mirrored(), expected, number)

    def test_moved(self):
        for number, system in self.systems():
            source = random.Random(number)
            shifts = {
                name: source.choice([source.randint(-9, 9), source.randint(-FAR, FAR)])
                for name in system.names if source.random() < 0.7
            }
            expected = each_end(least_holding(system), lambda name, bound: bound + shifts.get(name, 0))
            self.becomes(system.moved(shifts), expected, number)

    def test_stretched(self):
        for number, system in self.systems():
            for times in [1, 2, 1000, FAR]:
                expected = each_end(least_holding(system), lambda name, bound: times * bound)
                self.becomes(system.stretched(times), expected, number)

    def test_renamed(self):
        for number, system in self.systems():
            # Turned round, so that what comes first by name comes last.
            names = {name: "n" * (len(system.names) - at) for at, name in enumerate(system.names)}
            expected = {names[name]: one for name, one in least_holding(system).items()}
            self.becomes(system.renamed(names), expected, number)

    def test_beside(self):
        for number, system in self.systems(most_names=3, most_rules=6):
            other = made_system(number + 10 ** 6, most_names=3, most_rules=6)
            other = other.renamed({name: name + name for name in other.names})
            expected = {**least_holding(system), **least_holding(other)}
            self.becomes(system.beside(other), expected, number)
            self.becomes(other.beside(system), expected, number)

    def test_sequence_of_the_rules(self):
        for number, system in self.systems():
            rules = system.rules
            random.Random(number).shuffle(rules)
            self.becomes(System(system.names, rules), least_holding(system), number)
            self.becomes(System(system.names, rules[::-1]), least_holding(system), number)

    def test_rules_that_stand_twice(self):
        for number, system in self.systems(most_rules=6):
            self.becomes(System(system.names, system.rules * 2), least_holding(system), number)

    def test_a_rule_more(self):
        changed = 0
        for number, system in self.systems():
            more = system.with_rule(made_rule(random.Random(number), system.names, FAR, [1, -1, 2]))
            before, after = least_holding(system), least_holding(more)
            self.lies_within(before, after, number)
            self.assertTrue(is_holding(system, after))
            changed += before != after
        self.assertGreater(changed, 50)

    def test_greater_ranges(self):
        changed = 0
        for number, system in self.systems():
            source = random.Random(number)
            rules = system.rules
            for at in range(len(rules)):
                within = hull(rules[at][-2], made_range(source, FAR)) if source.random() < 0.3 else rules[at][-2]
                conditions = tuple((name, hull(one, made_range(source, FAR))) for name, one in rules[at][-1])
                rules[at] = (*rules[at][:-2], within, conditions)
            before, after = least_holding(system), least_holding(System(system.names, rules))
            self.lies_within(before, after, number)
            changed += before != after
        self.assertGreater(changed, 50)

    def test_the_least_holding_lies_within_every_holding(self):
        for number, system in self.systems():
            least = least_holding(system)
            source = random.Random(number)
            for _ in range(5):
                # A set more for each name makes a holding that may be far greater.
                more = system
                for name in system.names:
                    if source.random() < 0.5:
                        more = more.with_rule(("set", name, made_range(source, FAR), ()))
                holding = least_holding(more)
                self.assertTrue(is_holding(system, holding))
                self.lies_within(least, holding, number)

    def test_nothing_less_is_a_holding(self):
        for number, system in self.systems():
            least = least_holding(system)
            self.assertTrue(is_holding(system, least))
            for name, one in least.items():
                for less in lesser_ranges(one):
                    self.assertFalse(is_holding(system, {**least, name: less}), (number, name, less))

    def test_values_of_runs_are_in_the_ranges_of_the_least_holding(self):
        reached = 0
        for number, system in self.systems():
            least = least_holding(system)
            moves, told = made_run(random.Random(number), system, 100)
            self.assertEqual(values_behind(system, moves), told[-1])
            for values in told:
                for name, value in values.items():
                    self.assertTrue(value is None or can_be(value, least[name]), (number, moves, name, value))
            reached += len(moves)
        self.assertGreater(reached, 5000)

    def test_a_run_is_one_with_a_rule_more_at_the_end(self):
        for number, system in self.systems():
            source = random.Random(number)
            moves, told = made_run(source, system, 30)
            more = system.with_rule(made_rule(source, system.names, FAR, [1, -1, 2]))
            self.assertTrue(is_run(system, moves))
            self.assertTrue(is_run(more, moves))
            self.assertEqual(values_behind(more, moves), told[-1])

    def test_runs_of_changed_systems(self):
        for number, system in self.systems():
            moves, told = made_run(random.Random(number), system, 30)
            mirrored = [(at, None if value is None else -value) for at, value in moves]
            expected = {name: None if value is None else -value for name, value in told[-1].items()}
            self.assertEqual(values_behind(system.mirrored(), mirrored), expected)
            stretched = [(at, None if value is None else 7 * value) for at, value in moves]
            expected = {name: None if value is None else 7 * value for name, value in told[-1].items()}
            self.assertEqual(values_behind(system.stretched(7), stretched), expected)

    def test_the_text_of_a_sheet_gives_an_equal_sheet(self):
        for number, system in self.systems():
            sheet = Sheet(system)
            text = show_system(sheet.system)
            again = Sheet.of_text(text)
            self.assertTrue(again == sheet, number)
            self.assertEqual(show_system(again.system), text)
            self.assertEqual({name: again.range_of(name) for name in system.names}, least_holding(system))


if __name__ == "__main__":
    unittest.main()
