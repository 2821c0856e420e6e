"""Solving tasks: a plan with a measure, or a counterplay ([25], [26])."""

from noneorsome.arenas import arena_of, forced, without_forced
from noneorsome.counterplays import Counterplay
from noneorsome.games import play
from noneorsome.judging import judge
from noneorsome.measures import measure_of
from noneorsome.plans import Plan
from noneorsome.stances import counterplay_from


class Solution:
    """What a task comes to."""

    def __init__(self, won):
        self._won = won

    @property
    def won(self):
        return self._won


class Won(Solution):
    """A plan with a measure that holds for it."""

    def __init__(self, plan, measure):
        super().__init__(True)
        self.plan = plan.copy()
        self.measure = measure_of(measure.rows())


class Lost(Solution):
    """A counterplay that holds."""

    def __init__(self, counterplay):
        super().__init__(False)
        self.counterplay = Counterplay(counterplay.rows())


def solve(task, *, without=()):
    """Return a Won or a Lost for a task; the actions in `without` are left out."""
    world = task.base()
    plan, stand = outcome_of_game(world, task.goal, without)
    lost = [number for number, state in enumerate(world.states()) if number in stand.arena and state in task.start]
    if len(lost) > 0:
        return Lost(counterplay_from(world, stand, lost[0]))
    return won_by(task, plan)


def won_by(task, actions):
    """Return the Won with the plan that has these actions for numbers of states."""
    plan = Plan(task.base())
    for number, state in enumerate(task.base().states()):
        if number in actions:
            plan[state] = actions[number]
    return Won(plan, judge(task, plan))


def won_states(task, *, without=()):
    """Return the states from which there is a good plan."""
    world = task.base()
    _, stand = outcome_of_game(world, task.goal, without)
    return [state for number, state in enumerate(world.states()) if number not in stand.arena]


def outcome_of_game(world, goal, without):
    """Return the actions of a plan that wins where one can, and the stand of the opponent in all other states."""
    arena, goals = arena_of(world, goal, without)
    bits, near = forced(arena, goals, None)
    plan, stand = play(without_forced(arena, bits, None), world.counters())
    return {**near, **plan}, stand
