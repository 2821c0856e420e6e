"""Tasks: a world, where to begin and where to come to ([16])."""

from noneorsome.errors import OtherWorld
from noneorsome.world_checks import check_seen


class Task:
    """A copy of a world with two conditions on its states."""

    def __init__(self, world, start, goal):
        check_seen(start, world.seen())
        check_seen(goal, world.seen())
        self._world = world.copy()
        self._start = start
        self._goal = goal

    @property
    def start(self):
        return self._start

    @property
    def goal(self):
        return self._goal

    def set_start(self, condition):
        check_seen(condition, self._world.seen())
        self._start = condition

    def set_goal(self, condition):
        check_seen(condition, self._world.seen())
        self._goal = condition

    def base(self):
        """Return a copy of the world."""
        return self._world.copy()

    def starts(self):
        """Return the states for which `start` holds."""
        return [state for state in self._world.states() if state in self._start]

    def goals(self):
        """Return the states for which `goal` holds."""
        return [state for state in self._world.states() if state in self._goal]


def check_world(task, plan):
    """Raise OtherWorld if a plan is not one for the world of a task."""
    if task.base() != plan.base():
        raise OtherWorld()
