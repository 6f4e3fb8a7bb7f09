"""Systems: names of variables, and numbered rules for their values."""

from tightranges.errors import InvalidName, InvalidNumber, InvalidRule, InvalidSystem, UnknownName
from tightranges.rules import changed_rule, is_faulty, renamed_rule


def is_name(text):
    """Tells whether a string is a name."""
    return 1 <= len(text) <= 8 and all(["a" <= sign <= "z" for sign in text])


def check_number(system, number):
    """Rule check: raises InvalidRule if a system has no rule with a number."""
    if not 0 <= number < len(system):
        raise InvalidRule(number)


def check_name(system, name):
    """Name check: raises UnknownName if a system has no such name."""
    if name not in system.names:
        raise UnknownName(name)


def _check_system(names, rules):
    earlier = {}
    for name in names:
        if name in earlier or not is_name(name):
            raise InvalidName(name)
        earlier[name] = True
    for number, rule in enumerate(rules):
        if is_faulty(rule, names):
            raise InvalidSystem(number)


class System:
    """Names and rules; a system never changes."""

    def __init__(self, names, rules):
        _check_system(names, rules)
        self._names = sorted(names)
        self._rules = list(rules)

    def __len__(self):
        return len(self._rules)

    def __eq__(self, other):
        return isinstance(other, System) and self._names == other._names and self._rules == other._rules

    @property
    def names(self):
        """The ascending list of the names."""
        return list(self._names)

    @property
    def rules(self):
        """The list of the rules."""
        return list(self._rules)

    def without(self, numbers):
        """Returns the system without the rules with these numbers."""
        for number in numbers:
            check_number(self, number)
        return System(self._names, [rule for at, rule in enumerate(self._rules) if at not in numbers])

    def with_rule(self, rule):
        """Returns the system with a rule more at the end."""
        return System(self._names, self._rules + [rule])

    def beside(self, other):
        """Returns the system with the names of both, and the rules of the other one behind."""
        return System(self._names + other.names, self._rules + other.rules)

    def renamed(self, names):
        """Returns the system with other names; names leads from old to new ones."""
        for old in sorted(names):
            check_name(self, old)
        full = {name: names.get(name, name) for name in self._names}
        told = [full[name] for name in self._names]
        for old in sorted(names):
            if not is_name(full[old]) or told.count(full[old]) > 1:
                raise InvalidName(full[old])
        return System(told, [renamed_rule(rule, full) for rule in self._rules])

    def mirrored(self):
        """Returns the system for all values with the other sign."""
        return self._changed(-1, {})

    def moved(self, shifts):
        """Returns the system for the values of each variable plus its shift."""
        for name in sorted(shifts):
            check_name(self, name)
        return self._changed(1, shifts)

    def stretched(self, times):
        """Returns the system for all values times an integer."""
        if times < 1:
            raise InvalidNumber(times)
        return self._changed(times, {})

    def _changed(self, times, shifts):
        return System(self._names, [changed_rule(rule, times, shifts) for rule in self._rules])
