"""Plans as programs, and programs as plans ([37])."""

from noneorsome.courses import graph_of_program, is_place
from noneorsome.deciding import condition_for
from noneorsome.errors import Idle, NotPossible, TwoActions
from noneorsome.plans import Plan
from noneorsome.programs import Program
from noneorsome.tasks import check_world


def program_of(task, plan):
    """Return a program that does what a plan does, until the goal holds."""
    check_world(task, plan)
    rows = [(state, action) for state, action in plan.rows() if state not in task.goal]
    if len(rows) == 0:
        return Program.skip()
    seen = task.base().seen()
    groups = {}
    for state, action in rows:
        groups[action] = [*groups.get(action, []), state]
    return Program.loop(condition_for(seen, [state for state, _ in rows]), choice_of(seen, groups))


def choice_of(seen, groups):
    """Return a program that does the action of the group in which a state is, which is the last one or named."""
    names = list(groups)
    program = Program.do(names[-1])
    for name in names[:-1][::-1]:
        program = Program.choose(condition_for(seen, groups[name]), Program.do(name), program)
    return program


def plan_of(task, program):
    """Return the plan with the action of a program for each state in which a run comes to a place."""
    world = task.base()
    names = program.places()
    _, nodes, _ = graph_of_program(task, program)
    found = set(nodes)
    for state in world.states():
        if ("idle", state) in found:
            raise Idle(state)
    pairs = [(place, state) for place in range(len(names)) for state in world.states() if (place, state) in found]
    for place, state in pairs:
        if names[place] not in world.possible(state):
            raise NotPossible(state, names[place])
    plan = Plan(world)
    for state in world.states():
        done = [names[place] for place, other in pairs if other == state]
        if len(done) > 0:
            plan[state] = one_action(state, done)
    return plan


def one_action(state, done):
    """Return the action that is done in a state, if all that is done there is the same."""
    for action in done:
        if action != done[0]:
            raise TwoActions(state, done[0], action)
    return done[0]
