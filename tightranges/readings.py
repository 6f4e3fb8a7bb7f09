"""Readings: the ranges, rules and systems that have a text."""

from tightranges.errors import InvalidName, InvalidSystem, Unreadable
from tightranges.ranges import is_upside_down
from tightranges.systems import System, is_name

MOST_DIGITS = 45


def read_range(text):
    """Returns the range with a text."""
    if text == "none":
        return None
    try:
        return _bounds_of(text)
    except Unreadable:
        raise Unreadable(text) from None


def read_rule(text):
    """Returns the rule, of any names, with a text."""
    try:
        return _rule_of(text)
    except Unreadable:
        raise Unreadable(text) from None


def read_system(text):
    """Returns the system with a text."""
    try:
        return _system_of(text)
    except (InvalidName, InvalidSystem, Unreadable):
        raise Unreadable(text) from None


def _system_of(text):
    """Returns the system with a text; like all that stand below, it raises Unreadable with a part of the text."""
    names, _, rules = text.partition(": ")
    told = names.split(" ")
    system = System(told, [] if rules == "-" else [_rule_of(rule) for rule in rules.split("; ")])
    # The names of a system ascend, and so do those in its text.
    if system.names != told:
        raise Unreadable(names)
    return system


def _rule_of(text):
    # A name may be one of the words of a text, so only the place of a word tells what it stands for.
    match text.split(" "):
        case [x, "is", within, *rest]:
            return ("set", _name_of(x), _bounds_of(within), _conditions_of(rest))
        case [x, "from", factor, y, sign, add, "in", within, *rest] if within != "..":
            return _step_of(x, y, factor, sign, add) + (_bounds_of(within), _conditions_of(rest))
        case [x, "from", factor, y, sign, add, *rest]:
            return _step_of(x, y, factor, sign, add) + ((None, None), _conditions_of(rest))
    raise Unreadable(text)


def _step_of(x, y, factor, sign, add):
    """Returns a step up to its add, read from single words."""
    if factor == "0":
        raise Unreadable(factor)
    return ("step", _name_of(x), _name_of(y), _integer_of(factor), _signed(sign, add))


def _signed(sign, digits):
    if sign == "-":
        return _integer_of("-" + digits)
    if sign != "+" or digits.startswith("-"):
        raise Unreadable(sign)
    return _integer_of(digits)


def _conditions_of(words):
    if not words:
        return ()
    if words[0] != "when":
        raise Unreadable(words[0])
    return tuple([_condition_of(text) for text in " ".join(words[1:]).split(", ")])


def _condition_of(text):
    match text.split(" "):
        case [name, "in", one]:
            return (_name_of(name), _bounds_of(one))
    raise Unreadable(text)


def _name_of(text):
    if not is_name(text):
        raise Unreadable(text)
    return text


def _bounds_of(text):
    low, dots, high = text.partition("..")
    one = (_bound_of(low), _bound_of(high))
    if not dots or is_upside_down(one):
        raise Unreadable(text)
    return one


def _bound_of(text):
    return None if text == "" else _integer_of(text)


def _integer_of(text):
    digits = text.removeprefix("-")
    if not 1 <= len(digits) <= MOST_DIGITS or not all(["0" <= sign <= "9" for sign in digits]):
        raise Unreadable(text)
    if digits[0] == "0" and text != "0":
        raise Unreadable(text)
    return int(text)
