"""Least sets of names ([38], [39])."""

from noneorsome.states import all_subsets


def least_sets(names, is_good):
    """Return the good sets of names of which no proper subset is good, by length and then in ascending order.

    They are tuples in the order of the names. A set that contains a good one is not asked for.
    """
    found = []
    for some in sorted(all_subsets(names), key=len):
        if not any([is_within(one, some) for one in found]) and is_good(some):
            found.append(some)
    return found


def is_within(one, other):
    return all([name in other for name in one])
