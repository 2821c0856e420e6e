"""Conditions on sets of names ([3], [4])."""

from noneorsome.condition_words import are_equal, holds_for, is_within, names_among, write_words
from noneorsome.names import check_name


class Condition:
    """A condition holds or does not hold for a set of names. It never changes."""

    def __init__(self, words):
        """Make a condition of its words in postfix order; callers use `of`, `always`, `never`."""
        self._words = tuple(words)

    @staticmethod
    def of(name):
        """Return the condition that holds if a name is in the set."""
        check_name(name)
        return Condition([name])

    @staticmethod
    def always():
        return Condition(["always"])

    @staticmethod
    def never():
        return Condition(["never"])

    def names(self):
        """Return the names that are written in the condition, in ascending order."""
        return names_among(self._words)

    def __call__(self, names):
        return holds_for(self._words, names)

    def __contains__(self, names):
        return holds_for(self._words, names)

    def __and__(self, other):
        if not isinstance(other, Condition):
            return NotImplemented
        return Condition([*self._words, *other._words, "and"])

    def __or__(self, other):
        if not isinstance(other, Condition):
            return NotImplemented
        return Condition([*self._words, *other._words, "or"])

    def __invert__(self):
        return Condition([*self._words, "not"])

    def __eq__(self, other):
        if not isinstance(other, Condition):
            return False
        return are_equal(self._words, other._words)

    def __le__(self, other):
        if not isinstance(other, Condition):
            return NotImplemented
        return is_within(self._words, other._words)

    def __lt__(self, other):
        if not isinstance(other, Condition):
            return NotImplemented
        return is_within(self._words, other._words) and not is_within(other._words, self._words)

    def __str__(self):
        return str(write_words(self._words))
