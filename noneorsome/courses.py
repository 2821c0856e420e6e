"""Where the runs of a program come to in a world, whatever the numbers and the choices are ([34]).

A run comes to pairs of a place and a state. Where the program has failed and comes to no place, the pair has the
reason instead of a place: "unfinished" or "idle" ([36]).
"""

from noneorsome.errors import Idle
from noneorsome.graphs import edges_along, graph_from
from noneorsome.ways import ways_of


def place_behind(program, place, state):
    """Return the place to which a program comes behind a place, or at the beginning for None.

    It is None if the program ends, and "idle" if it goes round for ever without coming to a place.
    """
    try:
        if place is None:
            return program.entry(state)
        return program.after(place, state)
    except Idle:
        return "idle"


def pair_behind(task, program, place, state):
    """Return the pair to which a run comes behind a place, or at the beginning for None; None if it succeeds."""
    come = place_behind(program, place, state)
    if come is not None:
        return come, state
    return None if state in task.goal else ("unfinished", state)


def pairs_behind(task, program):
    """Return a dict with what `pair_behind` tells of all places, None among them, and all states."""
    before = [None, *list(range(len(program.places())))]
    states = task.base().states()
    return {(place, state): pair_behind(task, program, place, state) for place in before for state in states}


def is_place(place):
    """Return whether what stands in a pair is a place, and no reason."""
    return isinstance(place, int)


def reason_at(world, names, pair):
    """Return why a run of a program with these names at its places fails at a pair, or None if it goes on."""
    place, state = pair
    if not is_place(place):
        return place
    return None if names[place] in world.possible(state) else "impossible"


def graph_of_program(task, program):
    """Return the pairs at which runs begin, all pairs to which they come, and the edges between them."""
    world = task.base()
    names = program.places()
    behind = pairs_behind(task, program)

    def edges_from(node):
        if reason_at(world, names, node) is not None:
            return []
        place, state = node
        ways = [
            (index, gone, behind[(place, after)], taken, added)
            for index, gone, after, taken, added in ways_of(world, state, names[place])
        ]
        return edges_along(node, names[place], [way for way in ways if way[2] is not None])

    begun = [behind[(None, state)] for state in task.starts()]
    starts = [pair for pair in begun if pair is not None]
    nodes, edges = graph_from(starts, edges_from)
    return starts, nodes, edges
