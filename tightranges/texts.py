"""Texts: how ranges, rules and systems are written."""

from tightranges.ranges import check_range

PART_DIGITS = 64
PART = 10 ** 64


def show_range(one):
    """Returns the text of a range."""
    check_range(one)
    if one is None:
        return "none"
    low, high = one
    return _shown_bound(low) + ".." + _shown_bound(high)


def show_rule(rule):
    """Returns the text of a rule of a system."""
    words = [rule[1], "is", show_range(rule[2])] if rule[0] == "set" else _words_of_step(rule)
    if rule[-1]:
        words.append("when")
        words.append(", ".join([f"{name} in {show_range(one)}" for name, one in rule[-1]]))
    return " ".join(words)


def show_system(system):
    """Returns the text of a system."""
    rules = [show_rule(rule) for rule in system.rules]
    return " ".join(system.names) + ": " + ("; ".join(rules) if rules else "-")


def _words_of_step(rule):
    x, y, factor, add, within = rule[1:6]
    words = [x, "from", _shown_integer(factor), y, "-" if add < 0 else "+", _shown_integer(abs(add))]
    return words if within == (None, None) else words + ["in", show_range(within)]


def _shown_bound(bound):
    return "" if bound is None else _shown_integer(bound)


def _shown_integer(number):
    # Python's own str refuses integers of more than 4300 digits, so it gets them part by part.
    left = abs(number)
    parts = []
    while left >= PART:
        left, part = divmod(left, PART)
        parts.append(str(part).zfill(PART_DIGITS))
    parts.append(str(left))
    return ("-" if number < 0 else "") + "".join(parts[::-1])
