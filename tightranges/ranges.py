"""Ranges: None, which is empty, or a tuple (low, high), in which None stands for no bound."""

from tightranges.errors import InvalidRange


def is_upside_down(one):
    """Tells whether Range check refuses a range."""
    if one is None:
        return False
    low, high = one
    return low is not None and high is not None and low > high


def check_range(one):
    """Raises InvalidRange if Range check refuses a range."""
    if is_upside_down(one):
        raise InvalidRange(one)


def meets(one, other):
    """Tells whether some integer is in both ranges."""
    return common(one, other) is not None


def lies_within(one, other):
    """Tells whether each integer of one is in the other one."""
    return common(one, other) == one


def has_value(one, value):
    """Tells whether a value is an integer of a range; None, which stands for no value, is none."""
    return value is not None and lies_within((value, value), one)


def common(one, other):
    """Returns the range of the integers that are in both ranges."""
    check_range(one)
    check_range(other)
    if one is None or other is None:
        return None
    both = (_greatest(one[0], other[0]), _least(one[1], other[1]))
    return None if is_upside_down(both) else both


def joined(one, other):
    """Returns the least range that has the integers of both ranges."""
    check_range(one)
    check_range(other)
    if one is None:
        return other
    if other is None:
        return one
    return (_least_or_none(one[0], other[0]), _greatest_or_none(one[1], other[1]))


def stepped(one, factor, add):
    """Returns the least range with all factor * v + add for integers v of a range."""
    check_range(one)
    if one is None:
        return None
    ends = (_taken(one[0], factor, add), _taken(one[1], factor, add))
    return ends if factor > 0 else (ends[1], ends[0])


def _taken(bound, factor, add):
    return None if bound is None else factor * bound + add


def _least(one, other):
    """Returns the lesser bound; None cuts nothing."""
    if one is None:
        return other
    return one if other is None else min(one, other)


def _greatest(one, other):
    """Returns the greater bound; None cuts nothing."""
    if one is None:
        return other
    return one if other is None else max(one, other)


def _least_or_none(one, other):
    """Returns the lesser bound; None lies beyond all others."""
    return None if one is None or other is None else min(one, other)


def _greatest_or_none(one, other):
    """Returns the greater bound; None lies beyond all others."""
    return None if one is None or other is None else max(one, other)
