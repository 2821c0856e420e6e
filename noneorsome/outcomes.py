"""Outcomes of actions ([6])."""

from noneorsome.changes import is_change
from noneorsome.errors import BadChange
from noneorsome.names import check_name


def check_entry(name, change):
    check_name(name)
    if not is_change(change):
        raise BadChange(name, change)


class Outcome:
    """A set of changes, at most one for each name."""

    def __init__(self, changes=None):
        given = {} if changes is None else changes
        for name, change in given.items():
            check_entry(name, change)
        self._changes = dict(given)

    def names(self):
        """Return the changed names in ascending order."""
        return sorted(list(self._changes), key=str)

    def copy(self):
        return Outcome(self._changes)

    def __getitem__(self, name):
        return self._changes.get(name)

    def __setitem__(self, name, change):
        if change is None:
            check_name(name)
            self._changes.pop(name, None)
        else:
            check_entry(name, change)
            self._changes[name] = change

    def __iter__(self):
        raise TypeError("an outcome is not iterated over")

    def __contains__(self, name):
        return name in self._changes

    def __len__(self):
        return len(self._changes)

    def __eq__(self, other):
        if not isinstance(other, Outcome):
            return False
        return self._changes == other._changes
