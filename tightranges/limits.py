"""Limits: how great a bound may be so that a variable stays below a limit."""

from tightranges.errors import InvalidRule
from tightranges.holdings import least_holding
from tightranges.rules import with_high
from tightranges.systems import System, check_name, check_number

FAR = 10 ** 31


def greatest_high(system, number, name, limit):
    """Returns the greatest high of a set for which the range of a name has no integer beyond a limit."""
    check_number(system, number)
    rule = system.rules[number]
    if rule[0] != "set" or None in rule[2]:
        raise InvalidRule(number)
    check_name(system, name)
    return _greatest_kept(system, number, name, limit)


def greatest_bound(system, number, name, limit):
    """Returns the greatest high of within of a step for which the range of a name has no integer beyond a limit."""
    check_number(system, number)
    rule = system.rules[number]
    if rule[0] != "step" or rule[5][1] is None:
        raise InvalidRule(number)
    check_name(system, name)
    return _greatest_kept(system, number, name, limit)


def _greatest_kept(system, number, name, limit):
    """Returns the greatest high of within of a rule that keeps the limit; None if there is none."""
    low, _ = system.rules[number][-2]
    lowest = -FAR if low is None else low
    # A greater high never makes a range less, so all highs up to the one that is sought keep the limit.
    if lowest > FAR or not _keeps(system, number, lowest, name, limit):
        return None
    kept, beyond = lowest, FAR + 1
    while beyond - kept > 1:
        middle = (kept + beyond) // 2
        if _keeps(system, number, middle, name, limit):
            kept = middle
        else:
            beyond = middle
    return kept


def _keeps(system, number, high, name, limit):
    rules = system.rules
    rules[number] = with_high(rules[number], high)
    one = least_holding(System(system.names, rules))[name]
    return one is None or (one[1] is not None and one[1] <= limit)
