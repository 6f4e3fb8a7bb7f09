"""Spare rules: those that never count, those that change nothing, and those that must go."""

from itertools import combinations

from tightranges.effects import rule_counts
from tightranges.holdings import least_holding
from tightranges.ranges import check_range, lies_within
from tightranges.systems import check_name


def idle_rules(system):
    """Returns the numbers of the rules that do not count for the least holding."""
    ranges = least_holding(system)
    return [number for number, rule in enumerate(system.rules) if not rule_counts(rule, ranges)]


def needless_rules(system):
    """Returns the numbers of the rules without each of which alone the least holding is the same."""
    ranges = least_holding(system)
    return [number for number in range(len(system)) if least_holding(system.without([number])) == ranges]


def fewest_cuts(system, name, within):
    """Returns as few numbers of rules as possible without which the range of a name lies within a range."""
    check_name(system, name)
    check_range(within)
    # A rule that does not count with all others does not count with fewer of them, so no shortest list has it.
    idle = idle_rules(system)
    able = [number for number in range(len(system)) if number not in idle]
    for many in range(len(able)):
        for numbers in combinations(able, many):
            if lies_within(least_holding(system.without(list(numbers)))[name], within):
                return list(numbers)
    return able
