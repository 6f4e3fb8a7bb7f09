"""Points 6 to 8 and 10 over the whole: what becomes of the least holding when the system is changed."""

import random
import unittest

from tests.making import made_range, made_rule, made_system, made_systems
from tests.naive import hull, is_within
from tests.samples import FAR, busy
from tightranges.holdings import is_holding, least_holding
from tightranges.moves import derivation, follows
from tightranges.systems import System

MANY = 400


def each_end(ranges, change):
    """The ranges with all bounds that there are changed by a function of name and bound."""
    return {
        name: one if one is None else tuple(None if bound is None else change(name, bound) for bound in one)
        for name, one in ranges.items()
    }


def lesser_ranges(one):
    """Ranges within a range that lack a little of it, or of which a bound that was missing is far out."""
    if one is None:
        return []
    low, high = one
    cut = [(-10 ** 60 if low is None else low + 1, high), (low, 10 ** 60 if high is None else high - 1)]
    return [None] + [less for less in cut if None in less or less[0] <= less[1]]


class Whole(unittest.TestCase):
    def systems(self, **bounds):
        return list(enumerate(made_systems(MANY, **bounds))) + [(MANY, busy())]

    def becomes(self, system, expected, number):
        self.assertEqual(least_holding(system), expected, number)
        self.assertEqual(follows(system, derivation(system)), expected, number)

    def lies_within(self, ranges, others, number):
        for name, one in ranges.items():
            self.assertTrue(is_within(one, others[name]), (number, name, one, others[name]))

    def test_mirrored(self):
        for number, system in self.systems():
            ranges = each_end(least_holding(system), lambda name, bound: -bound)
            expected = {name: one if one is None else one[::-1] for name, one in ranges.items()}
            self.becomes(system.mirrored(), expected, number)

    def test_moved(self):
        for number, system in self.systems():
            source = random.Random(number)
            shifts = {
                name: source.choice([source.randint(-9, 9), source.randint(-FAR, FAR)])
                for name in system.names if source.random() < 0.7
            }
            expected = each_end(least_holding(system), lambda name, bound: bound + shifts.get(name, 0))
            self.becomes(system.moved(shifts), expected, number)

    def test_stretched(self):
        for number, system in self.systems():
            for times in [1, 2, 1000, FAR]:
                expected = each_end(least_holding(system), lambda name, bound: times * bound)
                self.becomes(system.stretched(times), expected, number)

    def test_renamed(self):
        for number, system in self.systems():
            # Turned round, so that what comes first by name comes last.
            names = {name: "n" * (len(system.names) - at) for at, name in enumerate(system.names)}
            expected = {names[name]: one for name, one in least_holding(system).items()}
            self.becomes(system.renamed(names), expected, number)

    def test_beside(self):
        for number, system in self.systems(most_names=3, most_rules=6):
            other = made_system(number + 10 ** 6, most_names=3, most_rules=6)
            other = other.renamed({name: name + name for name in other.names})
            expected = {**least_holding(system), **least_holding(other)}
            self.becomes(system.beside(other), expected, number)
            self.becomes(other.beside(system), expected, number)

    def test_sequence_of_the_rules(self):
        for number, system in self.systems():
            rules = system.rules
            random.Random(number).shuffle(rules)
            self.becomes(System(system.names, rules), least_holding(system), number)
            self.becomes(System(system.names, rules[::-1]), least_holding(system), number)

    def test_rules_that_stand_twice(self):
        for number, system in self.systems(most_rules=6):
            self.becomes(System(system.names, system.rules * 2), least_holding(system), number)

    def test_a_rule_more(self):
        changed = 0
        for number, system in self.systems():
            more = system.with_rule(made_rule(random.Random(number), system.names, FAR, [1, -1, 2]))
            before, after = least_holding(system), least_holding(more)
            self.lies_within(before, after, number)
            self.assertTrue(is_holding(system, after))
            changed += before != after
        self.assertGreater(changed, 50)

    def test_greater_ranges(self):
        changed = 0
        for number, system in self.systems():
            source = random.Random(number)
            rules = system.rules
            for at in range(len(rules)):
                within = hull(rules[at][-2], made_range(source, FAR)) if source.random() < 0.3 else rules[at][-2]
                conditions = tuple((name, hull(one, made_range(source, FAR))) for name, one in rules[at][-1])
                rules[at] = (*rules[at][:-2], within, conditions)
            before, after = least_holding(system), least_holding(System(system.names, rules))
            self.lies_within(before, after, number)
            changed += before != after
        self.assertGreater(changed, 50)

    def test_the_least_holding_lies_within_every_holding(self):
        for number, system in self.systems():
            least = least_holding(system)
            source = random.Random(number)
            for _ in range(5):
                # A set more for each name makes a holding that may be far greater.
                more = system
                for name in system.names:
                    if source.random() < 0.5:
                        more = more.with_rule(("set", name, made_range(source, FAR), ()))
                holding = least_holding(more)
                self.assertTrue(is_holding(system, holding))
                self.lies_within(least, holding, number)

    def test_nothing_less_is_a_holding(self):
        for number, system in self.systems():
            least = least_holding(system)
            self.assertTrue(is_holding(system, least))
            for name, one in least.items():
                for less in lesser_ranges(one):
                    self.assertFalse(is_holding(system, {**least, name: less}), (number, name, less))


if __name__ == "__main__":
    unittest.main()
