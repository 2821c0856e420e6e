"""Worlds ([8] to [13], [40])."""

from noneorsome.actions import copy_of, outcomes_of
from noneorsome.errors import NoState, NotPossible, UnknownAction
from noneorsome.states import all_states, all_subsets, are_some_of, in_order, is_lessened, state_behind
from noneorsome.world_checks import check_action, check_apart, check_names


class World:
    """Facts, piles and reserves, and the actions that change them."""

    def __init__(self, facts=(), piles=(), reserves=()):
        check_names([*facts, *piles, *reserves])
        self._facts = list(facts)
        self._piles = list(piles)
        self._reserves = list(reserves)
        # The actions in here are copies that nobody else has, and they are never changed.
        self._actions = {}

    def facts(self):
        return list(self._facts)

    def piles(self):
        return list(self._piles)

    def reserves(self):
        return list(self._reserves)

    def seen(self):
        """Return what a plan can see: the facts and then the piles."""
        return [*self._facts, *self._piles]

    def counters(self):
        """Return what has a number: the piles and then the reserves."""
        return [*self._piles, *self._reserves]

    def actions(self):
        """Return the names of the actions in their order."""
        return list(self._actions)

    def __getitem__(self, name):
        if name not in self._actions:
            raise UnknownAction(name)
        return copy_of(self._actions[name])

    def __setitem__(self, name, action):
        check_action(self, name, action)
        self._actions[name] = copy_of(action)

    def __iter__(self):
        raise TypeError("a world is not iterated over")

    def __contains__(self, name):
        return name in self._actions

    def __len__(self):
        return len(self._actions)

    def remove(self, name):
        if name not in self._actions:
            raise UnknownAction(name)
        del self._actions[name]

    def copy(self):
        twin = World(self._facts, self._piles, self._reserves)
        twin._actions = dict(self._actions)
        return twin

    def __eq__(self, other):
        if not isinstance(other, World):
            return False
        return self._has_lists_of(other) and list(self._actions.items()) == list(other._actions.items())

    def __le__(self, other):
        if not isinstance(other, World):
            return NotImplemented
        return self._has_lists_of(other) and self._has_actions_in(other)

    def __or__(self, other):
        if not isinstance(other, World):
            return NotImplemented
        check_apart(self, other)
        facts = [*self._facts, *other._facts]
        piles = [*self._piles, *other._piles]
        joined = World(facts, piles, [*self._reserves, *other._reserves])
        joined._actions = {**self._actions, **other._actions}
        return joined

    def states(self):
        """Return all states in the order of counting."""
        return all_states(self.seen())

    def state_of(self, names):
        """Return the state in which just these seen names hold."""
        if not are_some_of(names, self.seen()):
            raise NoState(names)
        return in_order(names, self.seen())

    def possible(self, state):
        """Return the names of the actions that are possible in a state."""
        at = self.state_of(state)
        return [name for name in self._actions if self._can_be_done(at, name)]

    def results(self, state, action):
        """Return all results of an action in a state as tuples `(index, gone, next)`."""
        at = self.state_for(state, action)
        outcomes = outcomes_of(self._actions[action])
        return [
            (index, gone, state_behind(at, outcome, gone, self.seen()))
            for index, outcome in enumerate(outcomes)
            for gone in all_subsets(self.taken_piles(outcome))
        ]

    def moves(self, state):
        """Go through the results of all possible actions as tuples `(action, index, gone, next)`."""
        at = self.state_of(state)
        rows = [(action, *result) for action in self.possible(at) for result in self.results(at, action)]
        yield from rows

    def shifts(self, state, action, index):
        """Return the counters that an outcome surely lessens, and those that it adds to."""
        at = self.state_of(state)
        outcome = self.outcome_at(at, action, index)
        lessened = [name for name in self.counters() if is_lessened(outcome[name], name in at)]
        added = [name for name in self.counters() if outcome[name] == "add"]
        return tuple(lessened), tuple(added)

    def outcome_at(self, state, action, index):
        """Return an outcome of an action that is possible in a state, with the errors of `shifts`."""
        self.state_for(state, action)
        return self._actions[action].outcome(index)

    def state_for(self, state, action):
        """Return a state in which an action is possible, with the errors of `results`."""
        at = self.state_of(state)
        if action not in self._actions:
            raise UnknownAction(action)
        if not self._can_be_done(at, action):
            raise NotPossible(at, action)
        return at

    def taken_piles(self, outcome):
        """Return the piles that an outcome takes from."""
        return [pile for pile in self._piles if outcome[pile] == "take"]

    def _can_be_done(self, at, name):
        action = self._actions[name]
        taken = [pile for outcome in outcomes_of(action) for pile in self.taken_piles(outcome)]
        return at in action.need and all([pile in at for pile in taken])

    def _has_lists_of(self, other):
        same_seen = self._facts == other._facts and self._piles == other._piles
        return same_seen and self._reserves == other._reserves

    def _has_actions_in(self, other):
        """Return whether each action is in the other world, under its name."""
        return all([
            name in other._actions and action == other._actions[name]
            for name, action in self._actions.items()
        ])
