"""Plans: tables from states to actions ([17])."""

from noneorsome.errors import NoRow, OtherWorld
from noneorsome.states import are_some_of, in_order


def copy_rows(rows):
    return {state: rows[state] for state in rows}


def rows_of_either(one, other):
    """Return the rows of `one` and, where it has none, those of `other`."""
    return {state: one[state] if state in one else other[state] for state in [*one, *other]}


def rows_of_both(one, other):
    """Return the rows that are the same in both."""
    return {state: one[state] for state in one if state in other and one[state] == other[state]}


def rows_apart(one, other):
    """Return the rows of `one` for states that have none in `other`."""
    return {state: one[state] for state in one if state not in other}


def check_same(one, other):
    """Raise OtherWorld if two worlds are not equal."""
    if one != other:
        raise OtherWorld()


class Plan:
    """A copy of a world, and at most one action for each of its states."""

    def __init__(self, world):
        self._world = world.copy()
        self._rows = {}

    def rows(self):
        """Return the pairs of a state and an action in the order of the states."""
        return [(state, self._rows[state]) for state in self._world.states() if state in self._rows]

    def base(self):
        """Return a copy of the world."""
        return self._world.copy()

    def remove(self, state):
        del self._rows[self._known(state)]

    def copy(self):
        return self._with(copy_rows(self._rows))

    def __call__(self, state):
        return self._rows[self._known(state)]

    def __getitem__(self, state):
        return self._rows[self._known(state)]

    def __setitem__(self, state, action):
        self._rows[self._world.state_for(state, action)] = action

    def __iter__(self):
        raise TypeError("a plan is not iterated over")

    def __contains__(self, state):
        if not isinstance(state, (tuple, list)) or not are_some_of(state, self._world.seen()):
            return False
        return in_order(state, self._world.seen()) in self._rows

    def __len__(self):
        return len(self._rows)

    def __or__(self, other):
        if not isinstance(other, Plan):
            return NotImplemented
        check_same(self._world, other._world)
        return self._with(rows_of_either(self._rows, other._rows))

    def __and__(self, other):
        if not isinstance(other, Plan):
            return NotImplemented
        check_same(self._world, other._world)
        return self._with(rows_of_both(self._rows, other._rows))

    def __sub__(self, other):
        if not isinstance(other, Plan):
            return NotImplemented
        check_same(self._world, other._world)
        return self._with(rows_apart(self._rows, other._rows))

    def __ior__(self, other):
        if not isinstance(other, Plan):
            return NotImplemented
        check_same(self._world, other._world)
        self._rows = rows_of_either(self._rows, other._rows)
        return self

    def __eq__(self, other):
        if not isinstance(other, Plan):
            return False
        return self._world == other._world and self._rows == other._rows

    def __le__(self, other):
        if not isinstance(other, Plan):
            return NotImplemented
        return self._world == other._world and rows_of_both(self._rows, other._rows) == self._rows

    def _known(self, state):
        """Return a state that has a row, as it stands in the table."""
        at = self._world.state_of(state)
        if at not in self._rows:
            raise NoRow(at)
        return at

    def _with(self, rows):
        """Return a plan for the same world with other rows."""
        twin = Plan(self._world)
        twin._rows = rows
        return twin
