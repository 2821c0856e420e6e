"""Amounts that nobody knows ([5]).

An item of an outcome is None as long as its name is not changed, so that
`outcome["here"] -= Some()` sets a change, and a second one is an error.
"""

from noneorsome.errors import ChangedTwice


class Some:
    """A part of what is there, or more of it: at least one thing."""

    def __radd__(self, other):
        if other is None:
            return "add"
        if isinstance(other, (bool, str)):
            raise ChangedTwice(other)
        return NotImplemented

    def __rsub__(self, other):
        if other is None:
            return "take"
        if isinstance(other, (bool, str)):
            raise ChangedTwice(other)
        return NotImplemented


class All:
    """All that is there."""

    def __rsub__(self, other):
        if other is None:
            return "empty"
        if isinstance(other, (bool, str)):
            raise ChangedTwice(other)
        return NotImplemented
