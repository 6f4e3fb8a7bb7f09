"""Systems for the tests that are made from a number: always the same ones."""

import random

from tightranges.systems import System

FAR = 10 ** 31
FACTORS = [[1], [1, -1], [1, 1, -1, 2, -2], [k for k in range(-9, 10) if k != 0]]


def made_number(source, far):
    size = source.choice([3, 10, 100, far])
    return source.randint(-size, size)


def made_range(source, far):
    low, high = sorted([made_number(source, far), made_number(source, far)])
    return source.choice([(low, high), (low, None), (None, high), (None, high), (low, None), (None, None)])


def made_rule(source, names, far, factors):
    conditions = tuple(
        (source.choice(names), made_range(source, far)) for _ in range(source.choice([0, 0, 0, 0, 1, 2]))
    )
    if source.random() < 0.2:
        low = made_number(source, far)
        return ("set", source.choice(names), (low, low + source.randint(0, 3)), conditions)
    return (
        "step", source.choice(names), source.choice(names), source.choice(factors), made_number(source, far),
        made_range(source, far), conditions,
    )


def made_system(number, most_names=6, most_rules=12, far=FAR):
    source = random.Random(number)
    names = list("uvwxyz"[:source.randint(1, most_names)])
    factors = source.choice(FACTORS)
    rules = [made_rule(source, names, far, factors) for _ in range(source.randint(1, most_rules) - 1)]
    low = made_number(source, far)
    # Without a set that always counts, all ranges stay empty.
    rules.insert(source.randint(0, len(rules)), ("set", source.choice(names), (low, low + 1), ()))
    return System(names, rules)


def made_systems(many, **bounds):
    return [made_system(number, **bounds) for number in range(many)]


def made_ranges(source, names, far=FAR):
    return {name: None if source.random() < 0.2 else made_range(source, far) for name in names}


def made_walk(source, rules):
    """Numbers of steps each of which reads what the one before it sets; it often ends where it began."""
    steps = [number for number, rule in enumerate(rules) if rule[0] == "step"]
    numbers = [source.choice(steps)]
    longest = source.choice([1, 2, 4, 12, 12, 13])
    while len(numbers) < longest:
        x = rules[numbers[-1]][1]
        behind = [number for number in steps if rules[number][2] == x]
        if not behind or (x == rules[numbers[0]][2] and source.random() < 0.4):
            break
        numbers.append(source.choice(behind))
    return numbers


def made_move(source, system):
    """A move, or what looks like one."""
    rules = system.rules
    any_number = source.randrange(-1, len(rules) + 1)
    if source.random() < 0.3 or all(rule[0] == "set" for rule in rules):
        return ("rule", any_number)
    numbers = made_walk(source, rules)
    if source.random() < 0.05:
        numbers[source.randrange(len(numbers))] = any_number
    side = source.choice(["low", "high"] * 10 + ["up"])
    if source.random() < 0.3:
        return ("grow", tuple(numbers), side)
    return ("round", tuple(numbers), side, source.choice([0, 1, 1, 2, 3, 5, 200, 201]))


def made_value(source, one):
    """A value in a range, at an end of it where it has one, or just beyond."""
    low, high = one
    ends = [end for end in one if end is not None]
    if ends and source.random() < 0.6:
        return source.choice(ends) + source.choice([0] * 10 + [1, -1])
    if low is None or high is None:
        return (source.choice(ends) if ends else 0) + made_number(source, FAR)
    return source.randint(low, high)


def made_use(source, system):
    """A tuple of a run, or what looks like one."""
    rules = system.rules
    if source.random() < 0.05:
        return (source.choice([-1, -len(rules), len(rules), FAR]), source.choice([None, 0]))
    number = source.randrange(len(rules))
    wrong = source.random() < 0.05
    if rules[number][0] == "set":
        return (number, None if wrong else made_value(source, rules[number][2]))
    return (number, source.choice([0, 1, -FAR]) if wrong else None)
