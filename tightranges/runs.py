"""Runs: how variables get single values by rules, one after the other."""

from tightranges.errors import InvalidMove
from tightranges.ranges import has_value


def is_run(system, moves):
    """Tells whether each move of a list is possible by the values before it."""
    try:
        values_behind(system, moves)
    except InvalidMove:
        return False
    return True


def values_behind(system, moves):
    """Returns a dict from all names to their values after a run; None stands for no value."""
    rules = system.rules
    values = {name: None for name in system.names}
    for number, (rule_number, value) in enumerate(moves):
        if not 0 <= rule_number < len(rules) or not _is_possible(rules[rule_number], values, value):
            raise InvalidMove(number)
        rule = rules[rule_number]
        values[rule[1]] = value if rule[0] == "set" else rule[3] * values[rule[2]] + rule[4]
    return values


def _is_possible(rule, values, value):
    """Tells whether a rule can be used with a value, None for a step, when the variables have these values."""
    if not all([has_value(one, values[name]) for name, one in rule[-1]]):
        return False
    if rule[0] == "set":
        return has_value(rule[2], value)
    return value is None and has_value(rule[5], values[rule[2]])
