"""Amounts that nobody knows ([5]).

An item of an outcome is None as long as its name is not changed, so that
`outcome["here"] -= Some()` sets a change, and a second one is an error.
"""

from noneorsome.errors import ChangedTwice


def check_unchanged(operand):
    if isinstance(operand, (bool, str)):
        raise ChangedTwice(operand)


class Some:
    """A part of what is there, or more of it: at least one thing."""

    def __radd__(self, other):
        check_unchanged(other)
        if other is None:
            return "add"
        return NotImplemented

    def __rsub__(self, other):
        check_unchanged(other)
        if other is None:
            return "take"
        return NotImplemented


class All:
    """All that is there."""

    def __rsub__(self, other):
        check_unchanged(other)
        if other is None:
            return "empty"
        return NotImplemented
