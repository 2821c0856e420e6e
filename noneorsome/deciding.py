"""Conditions that hold for some states alone."""

from noneorsome.conditions import Condition


def condition_for(seen, states):
    """Return a condition on some seen names that holds for just these states, which differ in no other names."""
    if len(states) == 0:
        return Condition.never()
    if len(states) == 1 << len(seen):
        return Condition.always()
    name = seen[0]
    held = condition_for(seen[1:], [state for state in states if name in state])
    free = condition_for(seen[1:], [state for state in states if name not in state])
    if held == free:
        return held
    return depending(Condition.of(name), held, free)


def depending(first, held, free):
    """Return a short condition that is `held` where the first one holds, and `free` elsewhere; these two differ."""
    if free == Condition.never():
        return both(first, held)
    if held == Condition.never():
        return both(~first, free)
    if held == Condition.always():
        return first | free
    if free == Condition.always():
        return ~first | held
    return (first & held) | (~first & free)


def both(one, other):
    return one if other == Condition.always() else one & other
