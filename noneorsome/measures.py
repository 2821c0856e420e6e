"""Measures, and what is wrong with them ([20], [21], [22])."""

from noneorsome.errors import BadRow, NoRow
from noneorsome.measure_rows import falls, is_row
from noneorsome.tasks import check_world
from noneorsome.ways import ways_of


class Measure:
    """A table from states to rows. It knows no world, so that each tuple is a key of its own."""

    def __init__(self):
        self._rows = {}

    def rows(self):
        """Return the pairs of a state and a row in the order in which the states were first set."""
        return [(state, self._rows[state]) for state in self._rows]

    def __getitem__(self, state):
        if state not in self._rows:
            raise NoRow(state)
        return self._rows[state]

    def __setitem__(self, state, row):
        if not is_row(row):
            raise BadRow(row)
        self._rows[state] = tuple(row)

    def __iter__(self):
        raise TypeError("a measure is not iterated over")

    def __contains__(self, state):
        return state in self._rows

    def __len__(self):
        return len(self._rows)


def measure_of(rows):
    """Return the measure with these pairs of a state and a row."""
    measure = Measure()
    for state, row in rows:
        measure[state] = row
    return measure


def measure_fault(task, plan, measure):
    """Return None if a measure holds for a task and a plan, else its first fault."""
    check_world(task, plan)
    world = task.base()
    unfinished = [state for state in world.states() if state not in task.goal]
    for state in unfinished:
        if state in task.start and state not in measure:
            return ("start", state)
    for state in unfinished:
        if state in measure:
            fault = fault_at(world, task.goal, plan, measure, state)
            if fault is not None:
                return fault
    return None


def fault_at(world, goal, plan, measure, state):
    """Return the first fault at a state that has a row in the measure, or None."""
    if state not in plan:
        return ("plan", state)
    for index, gone, behind, taken, added in ways_of(world, state, plan[state]):
        if behind not in goal and not is_lower(measure, state, behind, taken, added):
            return ("result", state, index, gone)
    return None


def is_lower(measure, state, behind, taken, added):
    """Return whether the row of the state behind is there and is lower."""
    return behind in measure and falls(measure[state], measure[behind], taken, added)
