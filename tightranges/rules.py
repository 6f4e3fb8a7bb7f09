"""Rules: what stands in one, and the same rule for other names or other values."""

from tightranges.ranges import is_upside_down, stepped


def is_faulty(rule, names):
    """Tells whether System check refuses a rule of a system with these names."""
    if rule[0] == "step" and rule[3] == 0:
        return True
    if any([name not in names for name in _names_of(rule)]):
        return True
    return any([one is None or is_upside_down(one) for one in _ranges_of(rule)])


def renamed_rule(rule, names):
    """Returns the rule with other names, told by a dict from all old names."""
    conditions = tuple([(names[name], one) for name, one in rule[-1]])
    if rule[0] == "set":
        return ("set", names[rule[1]], rule[2], conditions)
    x, y, factor, add, within = rule[1:6]
    return ("step", names[x], names[y], factor, add, within, conditions)


def changed_rule(rule, times, shifts):
    """Returns the rule for all values times a number that is not 0, plus the shift of their name."""
    conditions = tuple([(name, _changed_range(name, one, times, shifts)) for name, one in rule[-1]])
    if rule[0] == "set":
        return ("set", rule[1], _changed_range(rule[1], rule[2], times, shifts), conditions)
    x, y, factor, add, within = rule[1:6]
    # The value read has the shift of y already, and the factor multiplies it.
    changed_add = times * add + shifts.get(x, 0) - factor * shifts.get(y, 0)
    return ("step", x, y, factor, changed_add, _changed_range(y, within, times, shifts), conditions)


def with_high(rule, high):
    """Returns the rule with another high of its range within."""
    low, _ = rule[-2]
    return rule[:-2] + ((low, high), rule[-1])


def _changed_range(name, one, times, shifts):
    return stepped(one, times, shifts.get(name, 0))


def _names_of(rule):
    # A set names x only; a step names x and y, side by side.
    named = rule[1:2] if rule[0] == "set" else rule[1:3]
    return list(named) + [condition[0] for condition in rule[-1]]


def _ranges_of(rule):
    return [rule[-2]] + [condition[1] for condition in rule[-1]]
