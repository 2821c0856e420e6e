"""Whether a plan is good, and runs which show that it is not ([18], [23], [24])."""

from noneorsome.graphs import paths_from
from noneorsome.measures import Measure
from noneorsome.sieves import sieve, way_round
from noneorsome.tasks import check_world
from noneorsome.walks import closes_ring, numbers_for, points_of


class BadRun:
    """A run that does not come to the goal, with amounts in which None stands for all that is there."""

    def __init__(self, reason, state, stock, steps, back=None):
        self.reason = reason
        self.state = state
        self.stock = stock.copy()
        self.steps = [(action, index, dict(amounts)) for action, index, amounts in steps]
        self.back = back


def is_bad_run(task, plan, run):
    """Return whether a run shows that a plan is not good for a task."""
    check_world(task, plan)
    points = points_of(task.base(), run.state, run.stock, run.steps)
    if len(points) == 0 or run.state not in task.start:
        return False
    if any([state in task.goal for state, _ in points]) or not obeys(plan, points, run.steps):
        return False
    if run.reason == "missing":
        return run.back is None and points[-1][0] not in plan
    return run.reason == "ring" and closes_ring(points, run.back)


def obeys(plan, points, steps):
    """Return whether every action of some steps is that of the plan."""
    return all([
        state in plan and plan[state] == action
        for (state, _), (action, _, _) in zip(points, steps)
    ])


def judge(task, plan):
    """Return a measure that holds for a task and a plan, or a bad run."""
    check_world(task, plan)
    world = task.base()
    starts = [state for state in task.starts() if state not in task.goal]
    nodes, edges = graph_of(world, task.goal, plan, starts)
    missing = [state for state in nodes if state not in plan]
    if len(missing) > 0:
        path = paths_from(starts, edges)[missing[0]]
        return run_along(world, "missing", missing[0], path, [])
    rows, ring = sieve(nodes, edges)
    if len(ring) > 0:
        path = paths_from(starts, edges)[ring[0][0]]
        return run_along(world, "ring", ring[0][0], path, way_round(ring))
    measure = Measure()
    for state in rows:
        measure[state] = rows[state]
    return measure


def graph_of(world, goal, plan, starts):
    """Return the states to which runs of a plan come ahead of the goal, and the edges between them."""
    nodes = {state: True for state in starts}
    edges = []
    fresh = list(nodes)
    while len(fresh) > 0:
        state = fresh.pop()
        for edge in edges_at(world, goal, plan, state):
            edges.append(edge)
            if edge[1] not in nodes:
                nodes[edge[1]] = True
                fresh.append(edge[1])
    return list(nodes), edges


def edges_at(world, goal, plan, state):
    """Return the edges from a state by the action of a plan, one of each kind, without those to the goal."""
    if state not in plan:
        return []
    action = plan[state]
    edges = {}
    for index, gone, behind in world.results(state, action):
        if behind not in goal:
            taken, added = world.shifts(state, action, index)
            edges[(behind, taken, added)] = (state, behind, taken, added, (action, index, gone))
    return list(edges.values())


def run_along(world, reason, last, path, ring):
    """Return a bad run along a path of edges to a state, and then along a ring of edges, if there is one."""
    first = path[0][0] if len(path) > 0 else last
    back = len(path) if len(ring) > 0 else None
    ways = [edge[4] for edge in [*path, *ring]]
    stock, steps = numbers_for(world, first, ways, back)
    return BadRun(reason, first, stock, steps, back)
