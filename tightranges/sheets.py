"""Sheets: systems that change, rule by rule, and back again."""

from tightranges.errors import NothingToUndo
from tightranges.holdings import least_holding
from tightranges.readings import read_system
from tightranges.systems import System, check_name, check_number


class Sheet:
    """A system that changes."""

    def __init__(self, system):
        self._system = System(system.names, system.rules)
        self._earlier = []

    @classmethod
    def of_text(cls, text):
        """Returns a sheet with the system of a text."""
        return cls(read_system(text))

    def __eq__(self, other):
        return isinstance(other, Sheet) and self._system == other._system

    @property
    def system(self):
        """The present system."""
        return self._system

    def range_of(self, name):
        """Returns the range of a name in the least holding."""
        check_name(self._system, name)
        return least_holding(self._system)[name]

    def unreached(self):
        """Yields the names with empty ranges, ascending."""
        ranges = least_holding(self._system)
        for name in self._system.names:
            if ranges[name] is None:
                yield name

    def add(self, rule):
        """Adds a rule at the end; returns the names whose ranges change."""
        return self._become(self._system.with_rule(rule))

    def drop(self, number):
        """Takes a rule away; returns the names whose ranges change."""
        return self._become(self._system.without([number]))

    def put(self, number, rule):
        """Puts a rule in the place of another one; returns the names whose ranges change."""
        check_number(self._system, number)
        rules = self._system.rules
        rules[number] = rule
        return self._become(System(self._system.names, rules))

    def undo(self):
        """Takes back the last change that has not been taken back yet."""
        if not self._earlier:
            raise NothingToUndo(0)
        self._system = self._earlier.pop()

    def _become(self, system):
        before, after = least_holding(self._system), least_holding(system)
        self._earlier.append(self._system)
        self._system = system
        return [name for name in system.names if before[name] != after[name]]
