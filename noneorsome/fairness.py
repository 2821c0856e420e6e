"""Outcomes that cannot be put off for ever ([42])."""

from noneorsome.actions import Action, outcomes_of
from noneorsome.worlds import World


def fair(world, action, index, reserve):
    """Return a world with one more reserve, which an outcome of an action adds to and its others take from."""
    changed = world[action]
    changed.outcome(index)
    twin = World(world.facts(), world.piles(), [*world.reserves(), reserve])
    for name in world.actions():
        twin[name] = world[name]
    twin[action] = Action(changed.need, [
        with_change(outcome, reserve, "add" if at == index else "take")
        for at, outcome in enumerate(outcomes_of(changed))
    ])
    return twin


def with_change(outcome, name, change):
    """Return an outcome of its own with one more change."""
    twin = outcome.copy()
    twin[name] = change
    return twin
