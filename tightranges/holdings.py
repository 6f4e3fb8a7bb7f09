"""Holdings: ranges that the rules of a system keep, and the least ones of them."""

from tightranges.effects import rule_counts, rule_gives
from tightranges.growth import grown
from tightranges.ranges import is_upside_down, lies_within
from tightranges.systems import check_number


def least_holding(system):
    """Returns the holding whose ranges lie within those of every other one."""
    ranges, _ = grown(system)
    return ranges


def is_holding(system, ranges):
    """Tells whether a dict from names to ranges is a holding."""
    if sorted(ranges) != system.names or any([is_upside_down(one) for one in ranges.values()]):
        return False
    return all([lies_within(rule_gives(rule, ranges), ranges[rule[1]]) for rule in system.rules])


def counts(system, ranges, number):
    """Tells whether a rule counts for a dict from all names to ranges."""
    check_number(system, number)
    return rule_counts(system.rules[number], ranges)


def gives(system, ranges, number):
    """Returns the range that a rule gives, the empty one if it does not count."""
    check_number(system, number)
    return rule_gives(system.rules[number], ranges)
