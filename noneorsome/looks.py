"""What a plan has to look at ([39])."""

from noneorsome.errors import UnknownName
from noneorsome.least_sets import least_sets


def parted(plan, names):
    """Return None if the names tell a plan, else the first pair of states that does not agree."""
    seen = plan.base().seen()
    for name in names:
        if name not in seen:
            raise UnknownName(name)
    return pair_apart(plan.rows(), names)


def least_looks(plan):
    """Return the least sets of seen names that tell a plan."""
    rows = plan.rows()

    def are_telling(names):
        return pair_apart(rows, names) is None

    return least_sets(plan.base().seen(), are_telling)


def pair_apart(rows, names):
    """Return the first pair of states with different actions in which the same of the names hold, or None."""
    first = {}
    for state, action in rows:
        look = tuple([name for name in state if name in names])
        if look not in first:
            first[look] = (state, action)
        # All states with this look agreed so far, so that the first of them stands for all.
        if first[look][1] != action:
            return first[look][0], state
    return None
