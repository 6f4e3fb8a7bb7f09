"""The section of texts and readings as regular expressions: which texts some range, rule or system has."""

import re

INTEGER = "(?:0|-?[1-9][0-9]{0,44})"
FACTOR = "(?:-?[1-9][0-9]{0,44})"
ADD = r"(?:\+ (?:0|[1-9][0-9]{0,44})|- [1-9][0-9]{0,44})"
RANGE = rf"(?:{INTEGER}?\.\.{INTEGER}?)"
NAME = "[a-z]{1,8}"
CONDITION = f"(?:{NAME} in {RANGE})"
CONDITIONS = f"(?: when (?P<conditions>{CONDITION}(?:, {CONDITION})*))?"
SET = re.compile(f"(?P<x>{NAME}) is {RANGE}{CONDITIONS}")
STEP = re.compile(rf"(?P<x>{NAME}) from {FACTOR} (?P<y>{NAME}) {ADD}(?: in (?!\.\.(?: |$)){RANGE})?{CONDITIONS}")
ENDS = re.compile(rf"({INTEGER})\.\.({INTEGER})")


def has_no_range_upside_down(text):
    return all(int(low) <= int(high) for low, high in ENDS.findall(text))


def match_of_rule(text):
    return SET.fullmatch(text) or STEP.fullmatch(text)


def is_text_of_range(text):
    return text == "none" or (re.fullmatch(RANGE, text) is not None and has_no_range_upside_down(text))


def is_text_of_rule(text):
    return match_of_rule(text) is not None and has_no_range_upside_down(text)


def names_in_rule(text):
    groups = match_of_rule(text).groupdict()
    conditions = (groups["conditions"] or "").split(", ")
    return {groups["x"], groups.get("y", groups["x"])} | {one.split(" ")[0] for one in conditions if one}


def is_text_of_system(text):
    head, colon, tail = text.partition(": ")
    names, rules = head.split(" "), tail.split("; ")
    if not colon or names != sorted(set(names)) or not all(re.fullmatch(NAME, name) for name in names):
        return False
    if rules == ["-"]:
        return True
    return all(is_text_of_rule(rule) and names_in_rule(rule) <= set(names) for rule in rules)
