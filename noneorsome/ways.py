"""The ways that an action may go in a state ([12], [13])."""


def ways_of(world, state, action):
    """Return the results of an action in a state as tuples `(index, gone, behind, taken, added)`."""
    changed = [world.shifts(state, action, index) for index in range(len(world[action]))]
    return [(index, gone, behind, *changed[index]) for index, gone, behind in world.results(state, action)]
