"""Tasks and plans that are drawn by a seed, for tests that hold many of them against each other."""

import random

from noneorsome.actions import Action
from noneorsome.conditions import Condition
from noneorsome.errors import NoFreeOutcome
from noneorsome.outcomes import Outcome
from noneorsome.plans import Plan
from noneorsome.programs import Program
from noneorsome.tasks import Task
from noneorsome.worlds import World

FACTS = ["lit", "shut", "wet", "hot"]
PILES = ["here", "away", "up"]
RESERVES = ["luck", "oil", "time"]
ACTIONS = ["act", "bring", "carry", "do", "empty", "fill"]


def just(names, state):
    """The condition that holds for one state alone."""
    condition = Condition.always()
    for name in names:
        condition = condition & (Condition.of(name) if name in state else ~Condition.of(name))
    return condition


def draw_condition(chance, names):
    if not names or chance.random() < 0.15:
        return Condition.always()
    condition = Condition.of(chance.choice(names))
    if chance.random() < 0.4:
        condition = ~condition
    if chance.random() < 0.4:
        other = draw_condition(chance, names)
        condition = condition & other if chance.random() < 0.5 else condition | other
    return condition


def draw_outcome(chance, world, often):
    changes = {name: chance.random() < 0.5 for name in world.facts() if chance.random() < often}
    for name in world.piles():
        if chance.random() < often:
            changes[name] = chance.choice(["add", "take", "take", "empty"])
    for name in world.reserves():
        if chance.random() < often:
            changes[name] = chance.choice(["add", "take"])
    return Outcome(changes)


def draw_world(chance, facts, piles, reserves, actions, outcomes):
    world = World(FACTS[:facts], PILES[:piles], RESERVES[:reserves])
    often = chance.choice([0.2, 0.4, 0.7])
    for name in ACTIONS[:actions]:
        drawn = [draw_outcome(chance, world, often) for _ in range(chance.randint(1, outcomes))]
        try:
            world[name] = Action(draw_condition(chance, world.seen()), drawn)
        except NoFreeOutcome:
            world[name] = Action(Condition.always(), [Outcome(), *drawn][:outcomes])
    return world


def draw_task(seed):
    chance = random.Random(seed)
    piles = chance.randint(0, 3)
    facts = chance.randint(0, 4 - piles)
    world = draw_world(chance, facts, piles, chance.randint(0, 3 - piles), chance.randint(1, 6), chance.randint(1, 4))
    goal = Condition.never()
    for _ in range(chance.randint(1, 3)):
        goal = goal | just(world.seen(), chance.choice(world.states()))
    return Task(world, draw_condition(chance, world.seen()), goal)


def draw_plan(seed, task):
    """A plan with a row, as a rule, wherever some action is possible."""
    chance = random.Random(seed)
    plan = Plan(task.base())
    for state in task.base().states():
        possible = task.base().possible(state)
        if possible and chance.random() < 0.95:
            plan[state] = chance.choice(possible)
    return plan


def draw_part(chance, names, seen, depth):
    """A part of a program, nested at most so deep, with few actions."""
    kind = chance.choice(["do", "do", "do", "then", "loop", "choose", "skip"] if depth else ["do"])
    if kind == "skip":
        return Program.skip()
    if kind == "do":
        return Program.do(chance.choice(names))
    condition = draw_condition(chance, seen)
    one = draw_part(chance, names, seen, depth - 1)
    if kind == "loop":
        return Program.loop(condition, one)
    other = draw_part(chance, names, seen, depth - 1)
    return one >> other if kind == "then" else Program.choose(condition, one, other)


def draw_program(seed, task):
    """A program of 12 actions at most, which as a rule goes on until the goal holds and does what is possible."""
    chance = random.Random(seed)
    world = task.base()
    program = Program.skip()
    for _ in range(chance.randint(0, 4)):
        part = draw_part(chance, world.actions(), world.seen(), 3)
        if len(program.places()) + len(part.places()) <= 9:
            program = program >> part
    if chance.random() < 0.5:
        for name in chance.sample(world.actions(), min(2, len(world))):
            taken = [
                pile for index in range(len(world[name])) for pile in world.piles() if world[name].outcome(index)[pile] == "take"
            ]
            need = world[name].need
            for pile in taken:
                need = need & Condition.of(pile)
            program = Program.choose(need, Program.do(name), program)
    until = chance.choice([~task.goal, ~task.goal, Condition.always(), None])
    return program if until is None else Program.loop(until, program)
