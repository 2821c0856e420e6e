"""[38] least sets of actions; [2] at the limits."""

import itertools
import random
import time
import unittest

from noneorsome.actions import Action
from noneorsome.conditions import Condition
from noneorsome.needs import least_actions
from noneorsome.outcomes import Outcome
from noneorsome.solving import solve
from noneorsome.tasks import Task
from noneorsome.worlds import World
from tests.drawing import FACTS, draw_task, draw_world, just

ALWAYS = Condition.always()
NEVER = Condition.never()
LIT = Condition.of("lit")
WET = Condition.of("wet")
HOT = Condition.of("hot")
HERE = Condition.of("here")


def setting(**actions):
    """A world in which an action sets some facts."""
    world = World(["lit", "wet", "hot"], ["here"])
    for name, facts in actions.items():
        world[name] = Action(ALWAYS, [Outcome({fact: True for fact in facts})])
    return world


def least_by_hand(task):
    """What [38] tells."""
    actions = task.base().actions()
    found = []
    for length in range(len(actions) + 1):
        for places in itertools.combinations(range(len(actions)), length):
            some = tuple(actions[at] for at in places)
            others = [name for name in actions if name not in some]
            if not any(set(one) < set(some) for one in found) and solve(task, without=others).won:
                found.append(some)
    return found


class LeastActions(unittest.TestCase):
    def check(self, world, goal, expected, start=NEVER):
        found = least_actions(Task(world, ~LIT & ~WET & ~HOT if start == NEVER else start, goal))
        self.assertEqual(found, expected)
        self.assertTrue(all(isinstance(some, tuple) for some in found))

    def test_one_action(self):
        self.check(setting(a=["lit"]), LIT, [("a",)])
        self.check(setting(a=["lit"], b=["wet"]), LIT, [("a",)])

    def test_the_goal_in_all_starts(self):
        self.check(setting(a=["lit"]), ~LIT, [()])
        self.check(setting(), ALWAYS, [()])
        self.assertEqual(least_actions(Task(setting(a=["lit"]), NEVER, NEVER)), [()])
        self.check(setting(a=["lit"], b=["lit"]), LIT, [()], LIT)
        self.check(setting(a=["lit"], b=["lit"]), LIT, [("a",), ("b",)], ALWAYS)

    def test_a_task_that_is_lost(self):
        self.check(setting(a=["lit"], b=["wet"]), HOT, [])
        self.check(setting(), LIT, [])
        self.check(setting(a=["lit"]), NEVER, [])
        self.check(setting(a=["lit"]), LIT & HERE, [], ALWAYS)

    def test_several_sets_of_one_length(self):
        self.check(setting(c=["lit"], a=["lit"], b=["lit"]), LIT, [("c",), ("a",), ("b",)])
        self.check(setting(d=["lit"], c=["wet"], b=["lit"], a=["wet"]), LIT & WET, [
            ("d", "c"), ("d", "a"), ("c", "b"), ("b", "a"),
        ])

    def test_several_lengths(self):
        world = setting(d=["lit"], c=["wet"], b=["hot"], a=["lit", "wet", "hot"])
        self.check(world, LIT & WET & HOT, [("a",), ("d", "c", "b")])
        world = setting(d=["lit"], c=["wet"], b=["hot"], a=["lit", "wet"], e=["wet", "hot"], f=["lit", "wet", "hot"])
        self.check(world, LIT & WET & HOT, [("f",), ("d", "e"), ("b", "a"), ("a", "e"), ("d", "c", "b")])

    def test_an_action_that_helps_only_with_others(self):
        world = World(["lit"], ["here", "away"])
        world["fill"] = Action(~HERE, [Outcome({"here": "add"})])
        world["burn"] = Action(HERE, [Outcome({"here": "take", "lit": True})])
        world["stir"] = Action(HERE, [Outcome({"here": "add"}), Outcome({"lit": True})])
        self.assertEqual(least_actions(Task(world, ~HERE, LIT)), [("fill", "burn")])
        self.assertEqual(least_actions(Task(world, HERE, LIT)), [("burn",)])
        self.assertEqual(least_actions(Task(world, ALWAYS, LIT | HERE)), [("fill",)])

    def test_the_example(self):
        world = World(["open"], ["here"])
        world["wait"] = Action(ALWAYS, [Outcome()])
        world["carry"] = Action(HERE, [Outcome({"here": "take"})])
        world["clear"] = Action(HERE, [Outcome({"here": "empty"})])
        self.assertEqual(least_actions(task=Task(world, ALWAYS, ~HERE)), [("carry",), ("clear",)])

    def test_many_tasks(self):
        lengths = {}
        for seed in range(150):
            task = draw_task(seed)
            before = task.base()
            found = least_actions(task)
            self.assertEqual(found, least_by_hand(task))
            self.assertEqual(task.base(), before)
            for some in found:
                lengths[len(some)] = lengths.get(len(some), 0) + 1
            lengths[None] = lengths.get(None, 0) + (found == [])
        self.assertGreater(min(lengths[length] for length in [None, 0, 1, 2]), 5)


class Limits(unittest.TestCase):
    """[2]: worlds at the limits."""

    def timed(self, task):
        before = time.monotonic()
        found = least_actions(task)
        self.assertLess(time.monotonic() - before, 8)
        return found

    def test_drawn_worlds(self):
        for piles in range(4):
            for seed in range(3):
                chance = random.Random(seed)
                world = draw_world(chance, 4 - piles, piles, 3 - piles, 6, 4)
                self.timed(Task(world, ALWAYS, just(world.seen(), chance.choice(world.states()))))

    def test_all_actions_are_due(self):
        world = World(FACTS[:4])
        for at, name in enumerate(["a", "b", "c", "d"]):
            world[name] = Action(ALWAYS, [Outcome({FACTS[at]: True})])
        world["e"] = Action(ALWAYS, [Outcome({FACTS[0]: False})])
        world["f"] = Action(ALWAYS, [Outcome()])
        goal = just(FACTS[:4], FACTS[:4])
        self.assertEqual(self.timed(Task(world, ALWAYS, goal)), [("a", "b", "c", "d")])

    def test_tasks_that_are_lost(self):
        world = World(["lit"], ["here", "away", "up"])
        for name, pile in zip("abcdef", ["here", "away", "up"] * 2):
            others = [other for other in world.piles() if other != pile]
            world[name] = Action(Condition.of(pile), [
                Outcome({pile: "take", **{other: "add" for other in others}, "lit": at % 2 == 0}) for at in range(4)
            ])
        self.assertEqual(self.timed(Task(world, HERE, ~HERE & ~Condition.of("away") & ~Condition.of("up"))), [])


if __name__ == "__main__":
    unittest.main()
