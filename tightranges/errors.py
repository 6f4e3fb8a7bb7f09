"""The errors of the program; each keeps the value that was refused."""


class RangeError(ValueError):
    """The base of all errors of the program."""

    def __init__(self, value):
        self.value = value


class InvalidRange(RangeError):
    """A range has a low that is greater than its high."""


class InvalidName(RangeError):
    """A string is no name, or is the name of another variable."""


class InvalidSystem(RangeError):
    """The rule with this number cannot be a rule of the system."""


class InvalidRule(RangeError):
    """There is no rule with this number, or it is not of the kind asked for."""


class UnknownName(RangeError):
    """The system has no such name."""


class InvalidNumber(RangeError):
    """A number is not one of those that are allowed."""


class InvalidMove(RangeError):
    """The move with this number is not possible."""


class NothingToUndo(RangeError):
    """There is no call that can be taken back."""


class Unreadable(RangeError):
    """Nothing has this text."""
