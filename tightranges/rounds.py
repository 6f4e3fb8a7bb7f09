"""Rounds: steps that lead a variable back to itself, and what becomes of an end that goes them.

An end is written as a number that grows outward: the high of a range, or its low with the other sign.
"""

SIDES = ("low", "high")
MOST_STEPS = 12
MOST_TIMES = 200


def outward(bound, side):
    """Returns a bound as an end, or an end as a bound; a missing one stays missing."""
    return bound if bound is None or side == "high" else -bound


def end_of(one, side):
    """Returns the end of a range on a side, None if it is missing."""
    return outward(one[SIDES.index(side)], side)


def with_end(one, side, end):
    """Returns a range with another end on a side."""
    low, high = one
    return (outward(end, side), high) if side == "low" else (low, outward(end, side))


def side_across(side, factor):
    """Returns the side at the other end of a step with a factor, whichever way the step is looked through."""
    if factor > 0:
        return side
    return "low" if side == "high" else "high"


def is_round(rules, numbers):
    """Tells whether the rules with these numbers are steps that lead each end back to where it began."""
    if not 1 <= len(numbers) <= MOST_STEPS:
        return False
    if not all([0 <= number < len(rules) and rules[number][0] == "step" for number in numbers]):
        return False
    steps = [rules[number] for number in numbers]
    # Before the first step stands the last one, which sets what the first one reads.
    linked = all([step[2] == steps[at - 1][1] for at, step in enumerate(steps)])
    return linked and len([step for step in steps if step[3] < 0]) & 1 == 0


def course_of(steps, side):
    """Returns (factor, add, most) of a round: an end becomes factor * end + add, and at most most.

    Where most is None, no bound of within stops the end.
    """
    factor, add, most = 1, 0, None
    for step in steps:
        step_factor, step_add, within = step[3:6]
        stop = end_of(within, side)
        if stop is not None:
            most = stop if most is None else min(most, stop)
        side = side_across(side, step_factor)
        times, more = abs(step_factor), outward(step_add, side)
        factor, add = times * factor, times * add + more
        most = None if most is None else times * most + more
    return factor, add, most


def gone_on(end, course, times):
    """Returns an end after it has gone a round so many times, or the end itself if it does not grow by this."""
    factor, add, most = course
    if factor * end + add <= end or (most is not None and most <= end):
        return end
    # What grows once grows each time, so it is enough to look at most behind the last one.
    further = _gone_unstopped(end, factor, add, times)
    return further if most is None else min(further, most)


def _gone_unstopped(end, factor, add, times):
    if factor == 1:
        return end + times * add
    # The end may be far longer than the factors of all times together, so it is multiplied only once.
    factors, adds = 1, 0
    for _ in range(times):
        factors, adds = factor * factors, factor * adds + add
    return factors * end + adds


def times_to_most(end, course):
    """Returns how often a growing end goes a round until it is stopped, or as often as one move may tell."""
    factor, add, most = course
    if factor == 1:
        return -((end - most) // add)
    times = 0
    while end < most and times < MOST_TIMES:
        end = factor * end + add
        times += 1
    return times
