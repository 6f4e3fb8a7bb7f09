"""Effects: which rules count for given ranges, and what they give."""

from tightranges.ranges import common, meets, stepped


def rule_counts(rule, ranges):
    """Tells whether a rule counts for a dict from all names to ranges."""
    if not all([meets(ranges[name], one) for name, one in rule[-1]]):
        return False
    return rule[0] == "set" or meets(ranges[rule[2]], rule[5])


def rule_gives(rule, ranges):
    """Returns the range that a rule gives for a dict from all names to ranges."""
    if not rule_counts(rule, ranges):
        return None
    if rule[0] == "set":
        return rule[2]
    y, factor, add, within = rule[2:6]
    return stepped(common(ranges[y], within), factor, add)
