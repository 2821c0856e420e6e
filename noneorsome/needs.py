"""Least sets of actions ([38])."""

from noneorsome.least_sets import least_sets
from noneorsome.solving import won_states


def least_actions(task):
    """Return the least sets of actions with which a task is won."""
    actions = task.base().actions()
    starts = task.starts()

    def are_enough(used):
        won = won_states(task, without=[action for action in actions if action not in used])
        return all([state in won for state in starts])

    return least_sets(actions, are_enough)
