"""Actions ([7])."""

from noneorsome.errors import NoOutcome


class Action:
    """What may be done where a condition holds, with at least one outcome."""

    def __init__(self, need, outcomes):
        if len(outcomes) == 0:
            raise NoOutcome(0)
        self.need = need
        self._outcomes = [outcome.copy() for outcome in outcomes]

    def outcome(self, index):
        """Return a copy of an outcome, counted from 0."""
        if not 0 <= index < len(self._outcomes):
            raise NoOutcome(index)
        return self._outcomes[index].copy()

    def __len__(self):
        return len(self._outcomes)

    def __eq__(self, other):
        if not isinstance(other, Action):
            return False
        return self.need == other.need and self._outcomes == other._outcomes


def outcomes_of(action):
    """Return copies of all outcomes of an action, in their order."""
    return [action.outcome(index) for index in range(len(action))]


def copy_of(action):
    """Return an action of its own: the need of an action is an attribute, which may be set."""
    return Action(action.need, outcomes_of(action))
