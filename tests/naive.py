"""Points 7 and 8 word by word: single rules, single steps of an end, one time after the other."""

import math

LEAST, GREATEST = -math.inf, math.inf


def bounds(one):
    """A range as a pair that can be compared; floats stand for missing bounds only."""
    low, high = one
    return (LEAST if low is None else low, GREATEST if high is None else high)


def as_range(low, high):
    return (None if low == LEAST else low, None if high == GREATEST else high)


def both(one, other):
    if one is None or other is None:
        return None
    (low, high), (other_low, other_high) = bounds(one), bounds(other)
    low, high = max(low, other_low), min(high, other_high)
    return None if low > high else as_range(low, high)


def hull(one, other):
    if one is None or other is None:
        return other if one is None else one
    (low, high), (other_low, other_high) = bounds(one), bounds(other)
    return as_range(min(low, other_low), max(high, other_high))


def is_within(one, other):
    return hull(one, other) == other


def does_count(rule, ranges):
    reads = [] if rule[0] == "set" else [(rule[2], rule[5])]
    return all(both(ranges[name], one) is not None for name, one in [*rule[-1], *reads])


def given(rule, ranges):
    if not does_count(rule, ranges):
        return None
    if rule[0] == "set":
        return rule[2]
    _, _, y, factor, add, within, _ = rule
    ends = [None if end is None else factor * end + add for end in both(ranges[y], within)]
    return tuple(ends if factor > 0 else ends[::-1])


def is_kept(system, ranges):
    return all(is_within(given(rule, ranges), ranges[rule[1]]) for rule in system.rules)


def round_once(steps, side, end):
    """An end, None if it is missing, after it has gone the round once."""
    for _, _, _, factor, add, within, _ in steps:
        bound = within[0] if side == "low" else within[1]
        if bound is not None:
            if end is None or (end < bound if side == "low" else end > bound):
                end = bound
        if end is not None:
            end = factor * end + add
        if factor < 0:
            side = "low" if side == "high" else "high"
    return end


def round_often(steps, side, end, times):
    if end is None:
        return round_once(steps, side, end)
    if times <= 200:
        for _ in range(times):
            end = round_once(steps, side, end)
        return end
    # All factors are 1 or -1: the end is moved by as much each time, and a missing end tells where it is stopped.
    moved = round_once(steps, side, end) - end
    if moved == 0 or (moved < 0) != (side == "low"):
        return end
    stop = round_once(steps, side, None)
    far = end + times * moved
    return far if stop is None else max(far, stop) if side == "low" else min(far, stop)


def has_bound_where_it_reads(steps, side):
    for _, _, _, factor, _, within, _ in steps:
        if (within[0] if side == "low" else within[1]) is not None:
            return True
        if factor < 0:
            side = "low" if side == "high" else "high"
    return False


def steps_of_round(rules, numbers, side):
    """The steps of a round, or None if it is none."""
    if side not in ("low", "high") or not 1 <= len(numbers) <= 12:
        return None
    if any(number < 0 or number >= len(rules) or rules[number][0] != "step" for number in numbers):
        return None
    steps = [rules[number] for number in numbers]
    v, negatives = steps[0][2], 0
    at = v
    for _, x, y, factor, _, _, _ in steps:
        if y != at:
            return None
        at = x
        negatives += factor < 0
    return steps if at == v and negatives % 2 == 0 else None


def grows(one, side, end):
    old = bounds(one)
    if side == "low":
        return (LEAST if end is None else end) < old[0]
    return (GREATEST if end is None else end) > old[1]


def put_end(one, side, end):
    return (end, one[1]) if side == "low" else (one[0], end)


def after_move(rules, ranges, move):
    """The ranges after a move, None if it is none."""
    if move[0] == "rule":
        number = move[1]
        if number < 0 or number >= len(rules) or not does_count(rules[number], ranges):
            return None
        x = rules[number][1]
        return {**ranges, x: hull(ranges[x], given(rules[number], ranges))}
    steps = steps_of_round(rules, move[1], move[2])
    if steps is None or not all(does_count(step, ranges) for step in steps):
        return None
    v, side = steps[0][2], move[2]
    start = end = ranges[v][0] if side == "low" else ranges[v][1]
    if move[0] == "round":
        if move[3] < 1 or (move[3] > 200 and any(abs(step[3]) != 1 for step in steps)):
            return None
        end = round_often(steps, side, end, move[3])
        return {**ranges, v: put_end(ranges[v], side, end)} if grows(ranges[v], side, end) else ranges
    end = round_once(steps, side, start)
    if has_bound_where_it_reads(steps, side) or start is None or not grows(ranges[v], side, end):
        return None
    return {**ranges, v: put_end(ranges[v], side, None)}


def after_moves(system, moves):
    ranges = {name: None for name in system.names}
    for move in moves:
        ranges = after_move(system.rules, ranges, move)
        if ranges is None:
            return None
    return ranges


def is_least(system, ranges, moves):
    """Tells whether ranges are the least holding, as they are one, and moves lead to them.

    No move goes beyond any holding, so a holding that moves lead to is the least one.
    """
    return is_kept(system, ranges) and after_moves(system, moves) == ranges


def can_be(value, one):
    """Tells whether a variable with a value, None if it has none, has it in a range."""
    if value is None:
        return False
    low, high = bounds(one)
    return low <= value <= high


def values_after_rule(rules, values, move):
    """Point 9: the values after a tuple of a run, None if it is not possible."""
    number, value = move
    if number < 0 or number >= len(rules):
        return None
    rule = rules[number]
    if not all(can_be(values[name], one) for name, one in rule[-1]):
        return None
    if rule[0] == "set":
        return {**values, rule[1]: value} if can_be(value, rule[2]) else None
    _, x, y, factor, add, within, _ = rule
    if value is not None or not can_be(values[y], within):
        return None
    return {**values, x: factor * values[y] + add}
