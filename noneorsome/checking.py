"""Whether a program is right, and runs which show that it is not ([34], [35], [36])."""

from noneorsome.courses import graph_of_program, is_place, pairs_behind, place_behind, reason_at
from noneorsome.graphs import paths_from
from noneorsome.judging import first_node, run_along
from noneorsome.measures import is_lower, measure_of
from noneorsome.sieves import sieve, way_round
from noneorsome.walks import closes_ring, points_of
from noneorsome.ways import ways_of


def program_fault(task, program, measure):
    """Return None if a measure holds for a task and a program, else its first fault."""
    world = task.base()
    behind = pairs_behind(task, program)
    for state in task.starts():
        pair = behind[(None, state)]
        if pair is not None and not has_row(measure, pair):
            return ("start", state)
    for place, action in enumerate(program.places()):
        for state in world.states():
            if (place, state) in measure:
                fault = fault_at_pair(world, behind, measure, action, (place, state))
                if fault is not None:
                    return fault
    return None


def fault_at_pair(world, behind, measure, action, pair):
    """Return the first fault at a pair that has a row in the measure, or None."""
    place, state = pair
    if action not in world.possible(state):
        return ("action", place, state)
    for index, gone, after, taken, added in ways_of(world, state, action):
        come = behind[(place, after)]
        if come is not None and not (has_row(measure, come) and is_lower(measure, pair, come, taken, added)):
            return ("result", place, state, index, gone)
    return None


def has_row(measure, pair):
    # A reason is no place, even if the measure has a key that looks like such a pair.
    return is_place(pair[0]) and pair in measure


def is_bad_program_run(task, program, run):
    """Return whether a run shows that a program is not right for a task."""
    points = points_of(task.base(), run.state, run.stock, run.steps)
    if len(points) == 0 or run.state not in task.start:
        return False
    places = places_along(program, points, run.steps)
    if len(places) < len(points):
        return False
    if run.reason == "ring":
        return closes_ring(points, run.back) and places[run.back] == places[-1]
    reason = reason_behind(task, program, places[-1], points[-1][0])
    return reason is not None and run.reason == reason and run.back is None


def places_along(program, points, steps):
    """Return the places to which a program comes at the points of a run, as long as the steps do what it says."""
    names = program.places()
    places = [place_behind(program, None, points[0][0])]
    for (state, _), (action, _, _) in zip(points[1:], steps):
        here = places[-1]
        if not is_place(here) or names[here] != action:
            return places
        places.append(place_behind(program, here, state))
    return places


def reason_behind(task, program, place, state):
    """Return why a run fails that has come to a place, or to what stands in its place; None if it does not."""
    if place is not None:
        return reason_at(task.base(), program.places(), (place, state))
    return None if state in task.goal else "unfinished"


def check(task, program):
    """Return a measure that holds for a task and a program, or a bad run."""
    world = task.base()
    names = program.places()
    starts, nodes, edges = graph_of_program(task, program)
    failed = [pair for pair in nodes if reason_at(world, names, pair) is not None]
    if len(failed) > 0:
        path = paths_from(starts, edges)[failed[0]]
        reason = reason_at(world, names, failed[0])
        return run_along(world, reason, first_node(path, failed[0])[1], path, [])
    rows, ring = sieve(nodes, edges)
    if len(ring) > 0:
        path = paths_from(starts, edges)[ring[0][0]]
        return run_along(world, "ring", first_node(path, ring[0][0])[1], path, way_round(ring))
    return measure_of(list(rows.items()))
