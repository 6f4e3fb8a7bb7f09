"""Systems for the tests, and the rules' own meaning for single values."""

from tightranges.systems import System

FAR = 10 ** 31


def climb():
    return System(["y", "x"], [
        ("set", "x", (0, 0), ()),
        ("step", "x", "x", 1, 3, (None, 100), (("y", (2, None)),)),
    ])


def busy():
    """A system with every form of rule and of range, and numbers far out."""
    return System(["b", "c", "a"], [
        ("set", "a", (-3, 4), ()),
        ("set", "b", (None, None), (("a", (2, None)),)),
        ("step", "a", "b", -2, 7, (-5, 9), (("c", (None, 3)), ("a", (-6, 6)))),
        ("step", "c", "c", 3, -1, (None, None), (("c", (0, 0)), ("c", (None, None)))),
        ("step", "b", "a", 9, FAR, (None, FAR), ()),
        ("set", "c", (-FAR, None), (("b", (-FAR, FAR)),)),
        ("step", "c", "a", -9, -FAR, (-FAR, None), (("b", (1, 1)),)),
    ])


def small():
    """A system with numbers so small that all its values can be tried."""
    return System(["p", "q"], [
        ("set", "p", (-2, 3), (("q", (0, 2)),)),
        ("set", "q", (None, 1), ()),
        ("step", "p", "q", 2, -1, (-1, 2), (("p", (-2, 1)), ("q", (None, 2)))),
        ("step", "q", "q", -3, 2, (None, 1), (("p", (1, None)),)),
        ("step", "q", "p", 1, 0, (None, None), ()),
    ])


def is_in(value, one):
    low, high = one
    return (low is None or low <= value) and (high is None or value <= high)


def allows(rule, before, value):
    """Tells whether a rule may give a value to its x, where all variables have values."""
    if not all(is_in(before[name], one) for name, one in rule[-1]):
        return False
    if rule[0] == "set":
        return is_in(value, rule[2])
    _, _, y, factor, add, within, _ = rule
    return is_in(before[y], within) and value == factor * before[y] + add
