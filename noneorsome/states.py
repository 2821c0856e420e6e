"""States, and the states behind an outcome ([10], [12], [13])."""


def all_states(seen):
    """Return all states of some seen names in the order of counting."""
    states = [()]
    for name in seen[::-1]:
        states = states + [(name, *state) for state in states]
    return states


def are_some_of(names, known):
    """Return whether names are among the known ones, each at most once."""
    if not all([name in known for name in names]):
        return False
    return len(set(names)) == len(names)


def in_order(names, known):
    """Return the tuple of those of the known names that are among the names."""
    return tuple([name for name in known if name in names])


def all_subsets(names):
    """Return all subsets in ascending order, compared position by position."""
    subsets = [()]
    for name in names[::-1]:
        subsets = [(), *[(name, *subset) for subset in subsets], *subsets[1:]]
    return subsets


def state_behind(state, outcome, gone, seen):
    """Return which of the seen names hold behind an outcome, if just the piles in `gone` are used up by it."""
    return tuple([name for name in seen if holds_behind(outcome[name], name in state, name in gone)])


def holds_behind(change, held, gone):
    """Return whether a seen name holds behind a change, and None leaves it as it is."""
    if change is None:
        return held
    if change == "take":
        return not gone
    if change == "empty":
        return False
    # What is added is at least one thing; a fact has the change as its value.
    return change == "add" or change is True


def is_lessened(change, held):
    """Return whether a counter surely has less behind a change; `held` is for piles alone."""
    return change == "take" or (change == "empty" and held)
