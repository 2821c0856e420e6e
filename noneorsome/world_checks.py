"""What does not fit into a world ([8], [9], [40])."""

from noneorsome.actions import outcomes_of
from noneorsome.changes import fits_fact, fits_pile, fits_reserve
from noneorsome.errors import BadChange, NameInUse, NoFreeOutcome, UnknownName
from noneorsome.names import check_name


def check_names(names):
    """Raise BadName for the first one that is no name, else NameInUse for the first one that stood already."""
    for name in names:
        check_name(name)
    for at, name in enumerate(names):
        if name in names[:at]:
            raise NameInUse(name)


def check_seen(condition, seen):
    """Raise UnknownName for the first name of a condition that is no seen name."""
    for name in condition.names():
        if name not in seen:
            raise UnknownName(name)


def check_action(world, name, action):
    """Raise the error that is due if an action is defined in a world ([9])."""
    check_name(name)
    check_seen(action.need, world.seen())
    outcomes = outcomes_of(action)
    for outcome in outcomes:
        check_outcome(world, outcome)
    if all([takes_from_reserve(world, outcome) for outcome in outcomes]):
        raise NoFreeOutcome(name)


def check_outcome(world, outcome):
    for name in outcome.names():
        if not has_name(world, name):
            raise UnknownName(name)
        if not fits(world, name, outcome[name]):
            raise BadChange(name, outcome[name])


def has_name(world, name):
    """Return whether a name is one of the facts, piles and reserves of a world."""
    return name in world.facts() or name in world.counters()


def fits(world, name, change):
    """Return whether a change fits to a name that the world has."""
    if name in world.facts():
        return fits_fact(change)
    if name in world.piles():
        return fits_pile(change)
    return fits_reserve(change)


def takes_from_reserve(world, outcome):
    return any([outcome[reserve] == "take" for reserve in world.reserves()])


def check_apart(one, other):
    """Raise NameInUse for the first name of `other` that keeps two worlds from being joined ([40])."""
    for name in [*other.facts(), *other.counters()]:
        if has_name(one, name):
            raise NameInUse(name)
    for name in other.actions():
        if name in one:
            raise NameInUse(name)
