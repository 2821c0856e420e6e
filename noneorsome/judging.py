"""Whether a plan is good, and runs which show that it is not ([18], [23], [24])."""

from noneorsome.graphs import edges_along, graph_from, paths_from
from noneorsome.measures import measure_of
from noneorsome.sieves import sieve, way_round
from noneorsome.tasks import check_world
from noneorsome.walks import closes_ring, numbers_for, points_of
from noneorsome.ways import ways_of


class BadRun:
    """A run that does not come to the goal, with amounts in which None stands for all that is there."""

    def __init__(self, reason, state, stock, steps, back=None):
        self.reason = reason
        self.state = state
        self.stock = stock.copy()
        self.steps = [(action, index, dict(amounts)) for action, index, amounts in steps]
        self.back = back


def is_bad_run(task, plan, run):
    """Return whether a run shows that a plan is not good for a task."""
    check_world(task, plan)
    points = points_of(task.base(), run.state, run.stock, run.steps)
    if len(points) == 0 or run.state not in task.start:
        return False
    if any([state in task.goal for state, _ in points]) or not obeys(plan, points, run.steps):
        return False
    if run.reason == "missing":
        return run.back is None and points[-1][0] not in plan
    return run.reason == "ring" and closes_ring(points, run.back)


def obeys(plan, points, steps):
    """Return whether every action of some steps is that of the plan."""
    return all([
        state in plan and plan[state] == action
        for (state, _), (action, _, _) in zip(points, steps)
    ])


def judge(task, plan):
    """Return a measure that holds for a task and a plan, or a bad run."""
    check_world(task, plan)
    world = task.base()

    def edges_from(state):
        return edges_at(world, task.goal, plan, state)

    starts = [state for state in task.starts() if state not in task.goal]
    nodes, edges = graph_from(starts, edges_from)
    missing = [state for state in nodes if state not in plan]
    if len(missing) > 0:
        path = paths_from(starts, edges)[missing[0]]
        return run_along(world, "missing", first_node(path, missing[0]), path, [])
    rows, ring = sieve(nodes, edges)
    if len(ring) > 0:
        path = paths_from(starts, edges)[ring[0][0]]
        return run_along(world, "ring", first_node(path, ring[0][0]), path, way_round(ring))
    return measure_of(list(rows.items()))


def edges_at(world, goal, plan, state):
    """Return the edges from a state by the action of a plan, without those to the goal."""
    if state not in plan:
        return []
    ways = ways_of(world, state, plan[state])
    return edges_along(state, plan[state], [way for way in ways if way[2] not in goal])


def first_node(path, last):
    """Return the node at which a path of edges to the last node begins."""
    return path[0][0] if len(path) > 0 else last


def run_along(world, reason, state, path, ring):
    """Return a bad run from a state along a path of edges, and then along a ring of edges, if there is one."""
    back = len(path) if len(ring) > 0 else None
    ways = [edge[4] for edge in [*path, *ring]]
    stock, steps = numbers_for(world, state, ways, back)
    return BadRun(reason, state, stock, steps, back)
