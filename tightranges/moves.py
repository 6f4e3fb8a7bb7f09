"""Moves: how ranges grow by single rules, by rounds, and for ever."""

from tightranges.effects import rule_counts, rule_gives
from tightranges.growth import grown
from tightranges.holdings import least_holding
from tightranges.ranges import joined
from tightranges.rounds import MOST_TIMES, SIDES, course_of, end_of, gone_on, is_round, with_end


def derivation(system):
    """Returns a list of moves that leads from empty ranges to the least holding."""
    _, moves = grown(system)
    return moves


def follows(system, moves):
    """Returns the ranges after a list of moves from empty ones, None if one of them is no move."""
    rules = system.rules
    ranges = {name: None for name in system.names}
    for move in moves:
        change = _change(rules, ranges, move)
        if change is None:
            return None
        name, one = change
        ranges[name] = one
    return ranges


def is_derivation(system, moves):
    """Tells whether a list of moves leads from empty ranges to the least holding."""
    return follows(system, moves) == least_holding(system)


def _change(rules, ranges, move):
    """Returns the name whose range a move changes, and its new range; None if this is no move."""
    if move[0] == "rule":
        return _change_by_rule(rules, ranges, move[1])
    numbers, side = move[1:3]
    if side not in SIDES or not is_round(rules, numbers):
        return None
    steps = [rules[number] for number in numbers]
    if not all([rule_counts(step, ranges) for step in steps]):
        return None
    name = steps[0][2]
    course = course_of(steps, side)
    if move[0] == "round":
        return _change_by_round(name, ranges[name], course, side, move[3])
    return _change_for_ever(name, ranges[name], course, side)


def _change_by_rule(rules, ranges, number):
    if not 0 <= number < len(rules) or not rule_counts(rules[number], ranges):
        return None
    x = rules[number][1]
    return x, joined(ranges[x], rule_gives(rules[number], ranges))


def _change_by_round(name, one, course, side, times):
    # A factor of 1 for the whole round tells that those of all its steps are 1 or -1.
    if times < 1 or (times > MOST_TIMES and course[0] != 1):
        return None
    end = end_of(one, side)
    if end is None:
        return name, one
    return name, with_end(one, side, gone_on(end, course, times))


def _change_for_ever(name, one, course, side):
    end = end_of(one, side)
    if course[2] is not None or end is None or gone_on(end, course, 1) == end:
        return None
    return name, with_end(one, side, None)
