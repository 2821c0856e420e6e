"""[39] least looks."""

import itertools
import random
import unittest

from noneorsome.actions import Action
from noneorsome.conditions import Condition
from noneorsome.errors import UnknownName
from noneorsome.looks import least_looks, parted
from noneorsome.outcomes import Outcome
from noneorsome.plans import Plan
from noneorsome.solving import solve
from noneorsome.worlds import World
from tests.drawing import FACTS, PILES, draw_plan, draw_task
from tests.raising import RaisingCase

ALWAYS = Condition.always()


def open_world(facts, piles, reserves=()):
    """A world in which all actions are possible everywhere."""
    world = World(facts, piles, reserves)
    for name in ["a", "b", "c"]:
        world[name] = Action(ALWAYS, [Outcome()])
    return world


def plan_with(world, rows):
    plan = Plan(world)
    for state, action in rows:
        plan[state] = action
    return plan


def by_rule(world, rule):
    """The plan with a row for each state, as a rule tells."""
    return plan_with(world, [(state, rule(state)) for state in world.states()])


ROOM = open_world(["lit", "wet"], ["here"])


class Parted(RaisingCase):
    def test_names_that_tell(self):
        plan = by_rule(ROOM, lambda state: "a" if "wet" in state else "b")
        for names in [["wet"], ["wet", "lit"], ["here", "wet"], ["lit", "wet", "here"]]:
            self.assertIsNone(parted(plan, names))
            self.assertIsNone(parted(plan, tuple(names)))

    def test_the_first_pair(self):
        plan = by_rule(ROOM, lambda state: "a" if "wet" in state else "b")
        self.assertEqual(parted(plan, []), ((), ("wet",)))
        self.assertEqual(parted(plan, ["here"]), ((), ("wet",)))
        self.assertEqual(parted(plan, ["lit"]), ((), ("wet",)))
        self.assertEqual(parted(plan, ["lit", "here"]), ((), ("wet",)))

    def test_the_first_state_that_disagrees(self):
        """`other` is the first one, also where an earlier state belongs to a pair with a later `other`."""
        rows = {(): "a", ("here",): "b", ("wet",): "a", ("wet", "here"): "c", ("lit",): "b"}
        plan = plan_with(ROOM, rows.items())
        self.assertEqual(parted(plan, ["here"]), (("here",), ("wet", "here")))
        plan.remove(("wet", "here"))
        self.assertEqual(parted(plan, ["here"]), ((), ("lit",)))

    def test_the_first_earlier_one(self):
        plan = plan_with(ROOM, [((), "a"), (("here",), "a"), (("wet",), "a"), (("lit",), "b"), (("lit", "wet"), "c")])
        self.assertEqual(parted(plan, []), ((), ("lit",)))
        plan.remove(())
        self.assertEqual(parted(plan, []), (("here",), ("lit",)))
        self.assertEqual(parted(plan, ["here"]), (("wet",), ("lit",)))

    def test_order_and_duplicates_have_no_effect(self):
        plan = by_rule(ROOM, lambda state: "a" if "wet" in state and "here" in state else "b")
        for names in [["wet", "here"], ["here", "wet"], ("here", "wet", "here"), ["wet", "wet", "here", "here"]]:
            self.assertIsNone(parted(plan, names))
        for names in [["wet", "wet"], ("wet",), ["wet", "wet", "wet"]]:
            self.assertEqual(parted(plan, names), (("wet",), ("wet", "here")))
        self.assertEqual(parted(plan, ["lit", "here", "lit"]), (("here",), ("wet", "here")))

    def test_plans_with_few_rows(self):
        for rows in [[], [((), "a")], [(("lit", "here"), "b")]]:
            for names in [[], ["lit"], ["here", "wet"]]:
                self.assertIsNone(parted(plan_with(ROOM, rows), names))

    def test_rows_that_are_taken_out(self):
        plan = by_rule(ROOM, lambda state: "b" if state == ("wet",) else "a")
        self.assertEqual(parted(plan, ["lit"]), ((), ("wet",)))
        plan.remove(("wet",))
        self.assertIsNone(parted(plan, ["lit"]))
        self.assertIsNone(parted(plan, []))

    def test_names_that_are_not_seen(self):
        world = open_world(["lit"], ["here"], ["luck"])
        plan = plan_with(world, [((), "a"), (("lit",), "b")])
        for names, strange in [
            (["luck"], "luck"), (["q"], "q"), (["lit", "q", "luck"], "q"), (("luck", "q"), "luck"), (["a"], "a"), ([""], ""),
            (["here", "Lit", "q"], "Lit"),
        ]:
            self.assert_raises(UnknownName(strange), parted, plan, names)
            self.assert_raises(UnknownName(strange), parted, Plan(world), names)

    def test_arguments_by_names(self):
        self.assertIsNone(parted(names=["lit"], plan=Plan(ROOM)))

    def test_nothing_is_changed(self):
        plan, names = by_rule(ROOM, lambda state: "a"), ["wet", "lit"]
        parted(plan, names)
        least_looks(plan)
        self.assertEqual([plan, names], [by_rule(ROOM, lambda state: "a"), ["wet", "lit"]])


def parted_by_hand(plan, names):
    rows = plan.rows()
    for at, (other, action) in enumerate(rows):
        for one, before in rows[:at]:
            same = all((name in one) == (name in other) for name in names)
            if same and before != action:
                return one, other
    return None


def least_by_hand(plan):
    seen = plan.base().seen()
    telling = [
        tuple(seen[at] for at in places)
        for length in range(len(seen) + 1) for places in itertools.combinations(range(len(seen)), length)
        if parted_by_hand(plan, [seen[at] for at in places]) is None
    ]
    return [some for some in telling if not any(set(other) < set(some) for other in telling)]


class LeastLooks(unittest.TestCase):
    def test_plans_that_need_no_look(self):
        for rows in [[], [((), "a")], [((), "a"), (("lit",), "a"), (("wet", "here"), "a")]]:
            self.assertEqual(least_looks(plan_with(ROOM, rows)), [()])

    def test_one_set(self):
        self.assertEqual(least_looks(by_rule(ROOM, lambda state: "a" if "wet" in state else "b")), [("wet",)])
        self.assertEqual(least_looks(by_rule(ROOM, lambda state: "a" if "here" in state else "b")), [("here",)])
        self.assertEqual(least_looks(by_rule(ROOM, lambda state: "abc"[len(state) % 3])), [("lit", "wet", "here")])

    def test_several_sets_of_one_length(self):
        plan = plan_with(ROOM, [((), "a"), (("lit", "wet", "here"), "b")])
        self.assertEqual(least_looks(plan), [("lit",), ("wet",), ("here",)])
        plan = plan_with(ROOM, [((), "a"), (("lit", "wet"), "b"), (("lit", "here"), "c"), (("wet", "here"), "a")])
        self.assertEqual(least_looks(plan), [("lit", "wet"), ("lit", "here"), ("wet", "here")])

    def test_several_lengths(self):
        plan = plan_with(ROOM, [((), "a"), (("lit", "wet"), "b"), (("wet", "here"), "b"), (("here",), "b")])
        self.assertEqual(least_looks(plan), least_by_hand(plan))
        plan = plan_with(ROOM, [((), "a"), (("lit", "here"), "b"), (("wet", "here"), "b")])
        self.assertEqual(least_looks(plan), [("here",), ("lit", "wet")])

    def test_the_order_of_the_world(self):
        world = open_world(["wet", "lit"], ["up", "here"])
        plan = plan_with(world, [((), "a"), (("wet", "lit", "up", "here"), "b")])
        self.assertEqual(least_looks(plan=plan), [("wet",), ("lit",), ("up",), ("here",)])
        plan = by_rule(world, lambda state: "a" if ("here" in state) == ("wet" in state) else "b")
        self.assertEqual(least_looks(plan), [("wet", "here")])

    def test_rows_of_all_states_count(self):
        world = open_world(["lit"], [])
        self.assertEqual(least_looks(plan_with(world, [((), "a"), (("lit",), "b")])), [("lit",)])
        self.assertEqual(least_looks(plan_with(world, [((), "a")])), [()])
        self.assertEqual(least_looks(plan_with(open_world([], []), [((), "a")])), [()])

    def test_they_are_tuples(self):
        self.assertTrue(all(isinstance(some, tuple) for some in least_looks(by_rule(ROOM, lambda state: "a"))))

    def test_many_plans(self):
        chance = random.Random(39)
        lengths = set()
        for seed in range(300):
            task = draw_task(seed)
            solution = solve(task)
            plan = solution.plan if solution.won and seed % 3 == 0 else draw_plan(seed, task)
            for state, _ in plan.rows():
                if seed % 2 and chance.random() < 0.6:
                    plan.remove(state)
            found = least_looks(plan)
            self.assertEqual(found, least_by_hand(plan))
            lengths.add(len(found))
            for _ in range(5):
                names = [name for name in plan.base().seen() * 2 if chance.random() < 0.4]
                chance.shuffle(names)
                self.assertEqual(parted(plan, names), parted_by_hand(plan, names))
        self.assertGreater(len(lengths), 2)

    def test_a_world_at_the_limits(self):
        world = open_world(FACTS[:1], PILES)
        plan = by_rule(world, lambda state: "a" if len(state) % 2 else "b")
        self.assertEqual(least_looks(plan), [("lit", "here", "away", "up")])


if __name__ == "__main__":
    unittest.main()
