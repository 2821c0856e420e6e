"""Counterplays, and what is wrong with them ([27], [28], [29])."""

from noneorsome.errors import NoPosition, UnknownAction


class Counterplay:
    """Positions, each with a state, floors of the counters and a reply to each action. It knows no world."""

    def __init__(self, rows):
        self._rows = [(state, dict(floors), dict(replies)) for state, floors, replies in rows]

    def rows(self):
        """Return the positions as tuples `(state, floors, replies)`."""
        return [(state, dict(floors), dict(replies)) for state, floors, replies in self._rows]

    def state_at(self, position):
        return self._row(position)[0]

    def floor_at(self, position, counter):
        return self._row(position)[1].get(counter, 0)

    def reply_at(self, position, action):
        """Return the reply `(index, gone, next)` to an action."""
        replies = self._row(position)[2]
        if action not in replies:
            raise UnknownAction(action)
        return replies[action]

    def __len__(self):
        return len(self._rows)

    def _row(self, position):
        if not 0 <= position < len(self._rows):
            raise NoPosition(position)
        return self._rows[position]


def counterplay_fault(task, counterplay, *, without=()):
    """Return None if a counterplay holds for a task, else its first fault."""
    if len(counterplay) == 0:
        return ("empty",)
    world = task.base()
    first = counterplay.state_at(0)
    if first not in world.states() or first not in task.start:
        return ("start",)
    for position in range(len(counterplay)):
        fault = fault_of_position(world, task.goal, counterplay, position, without)
        if fault is not None:
            return fault
    return None


def fault_of_position(world, goal, counterplay, position, without):
    """Return the first fault at a position, or None."""
    state = counterplay.state_at(position)
    if state not in world.states() or state in goal:
        return ("state", position)
    for counter in world.counters():
        if not fits_floor(world, state, counter, counterplay.floor_at(position, counter)):
            return ("floor", position, counter)
    for action in world.possible(state):
        if action not in without:
            fault = fault_of_reply(world, counterplay, position, action)
            if fault is not None:
                return fault
    return None


def fits_floor(world, state, counter, floor):
    if counter in world.piles() and counter not in state:
        return floor == 0
    return floor >= 1 or (floor == 0 and counter in world.reserves())


def fault_of_reply(world, counterplay, position, action):
    """Return the first fault of the reply to an action that is possible, or None."""
    if not has_reply(world, counterplay, position, action):
        return ("reply", position, action)
    state = counterplay.state_at(position)
    index, _, after = counterplay.reply_at(position, action)
    lessened, added = world.shifts(state, action, index)
    for counter in world.counters():
        here = counterplay.floor_at(position, counter)
        there = counterplay.floor_at(after, counter)
        used_up = counter in world.piles() and counter not in counterplay.state_at(after)
        if counter not in added and not is_covered(counter in lessened, used_up, here, there):
            return ("rise", position, action, counter)
    return None


def has_reply(world, counterplay, position, action):
    """Return whether the reply to an action is there and is one of its results."""
    try:
        index, gone, after = counterplay.reply_at(position, action)
    except UnknownAction:
        return False
    if not 0 <= after < len(counterplay):
        return False
    result = (index, gone, counterplay.state_at(after))
    return result in world.results(counterplay.state_at(position), action)


def is_covered(lessened, used_up, here, there):
    """Return whether a number of at least `here`, to which nothing is added, is at least `there` behind a reply."""
    if lessened:
        return used_up or there < here
    return there <= here
