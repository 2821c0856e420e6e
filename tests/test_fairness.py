"""[42] fair outcomes."""

import unittest

from noneorsome.actions import Action
from noneorsome.conditions import Condition
from noneorsome.errors import BadName, NameInUse, NoFreeOutcome, NoOutcome, UnknownAction
from noneorsome.fairness import fair
from noneorsome.judging import judge
from noneorsome.measures import Measure
from noneorsome.outcomes import Outcome
from noneorsome.plans import Plan
from noneorsome.solving import solve
from noneorsome.tasks import Task
from noneorsome.worlds import World
from tests.drawing import draw_task
from tests.raising import RaisingCase

ALWAYS = Condition.always()
LIT = Condition.of("lit")
HERE = Condition.of("here")


def yard():
    world = World(["lit"], ["here"], ["luck"])
    world["wait"] = Action(ALWAYS, [Outcome()])
    world["push"] = Action(HERE, [
        Outcome({"lit": True}), Outcome({"here": "take", "luck": "take"}), Outcome(), Outcome({"lit": True}),
    ])
    world["risk"] = Action(~LIT, [Outcome({"luck": "take"}), Outcome({"luck": "add"})])
    world["time"] = Action(LIT, [Outcome({"lit": False})])
    return world


class Fair(RaisingCase):
    def test_the_outcome_and_all_others(self):
        world = fair(yard(), "push", 0, "oil")
        self.assertIsInstance(world, World)
        self.assertEqual([world.facts(), world.piles(), world.reserves()], [["lit"], ["here"], ["luck", "oil"]])
        self.assertEqual(world["push"], Action(HERE, [
            Outcome({"lit": True, "oil": "add"}), Outcome({"here": "take", "luck": "take", "oil": "take"}),
            Outcome({"oil": "take"}), Outcome({"lit": True, "oil": "take"}),
        ]))

    def test_an_outcome_in_the_middle_and_at_the_end(self):
        for index in [2, 3]:
            world = fair(yard(), "push", index, "oil")
            self.assertEqual([world["push"].outcome(at)["oil"] for at in range(4)], [
                "add" if at == index else "take" for at in range(4)
            ])

    def test_outcomes_that_share_their_changes(self):
        """The first and the last outcome are equal, and only the one that is meant is added to."""
        world = fair(yard(), "push", 3, "oil")
        self.assertEqual([world["push"].outcome(0)["oil"], world["push"].outcome(3)["oil"]], ["take", "add"])
        same = Outcome({"lit": True})
        world = World(["lit"])
        world["push"] = Action(ALWAYS, [same, same, same])
        found = fair(world, "push", 1, "oil")
        self.assertEqual([found["push"].outcome(at)["oil"] for at in range(3)], ["take", "add", "take"])
        self.assertEqual(same, Outcome({"lit": True}))

    def test_an_action_with_one_outcome(self):
        world = fair(yard(), "time", 0, "oil")
        self.assertEqual(world["time"], Action(LIT, [Outcome({"lit": False, "oil": "add"})]))

    def test_everything_else_is_as_before(self):
        world = fair(yard(), "push", 0, "oil")
        self.assertEqual(world.actions(), ["wait", "push", "risk", "time"])
        for name in ["wait", "risk", "time"]:
            self.assertEqual(world[name], yard()[name])
        self.assertEqual(world["push"].need, HERE)

    def test_the_first_world_is_unchanged(self):
        before = yard()
        world = fair(before, "push", 0, "oil")
        self.assertEqual(before, yard())
        world.remove("wait")
        world["risk"] = Action(LIT, [Outcome()])
        self.assertEqual(before, yard())

    def test_a_second_reserve(self):
        world = fair(fair(yard(), "push", 0, "oil"), "push", 0, "ash")
        self.assertEqual(world.reserves(), ["luck", "oil", "ash"])
        self.assertEqual(world["push"].outcome(0), Outcome({"lit": True, "oil": "add", "ash": "add"}))
        self.assertEqual(world["push"].outcome(2), Outcome({"oil": "take", "ash": "take"}))
        self.assert_raises(NoFreeOutcome("push"), fair, fair(yard(), "push", 0, "oil"), "push", 2, "ash")

    def test_an_action_that_is_not_there(self):
        for name in ["burn", "", "lit", "Push"]:
            self.assert_raises(UnknownAction(name), fair, yard(), name, 0, "oil")
            self.assert_raises(UnknownAction(name), fair, yard(), name, 9, "Oil")

    def test_an_outcome_that_is_not_there(self):
        for index in [-1, -4, 4, 5, 10 ** 30]:
            for reserve in ["oil", "Oil", "luck"]:
                self.assert_raises(NoOutcome(index), fair, yard(), "push", index, reserve)
        self.assert_raises(NoOutcome(1), fair, yard(), "wait", 1, "oil")

    def test_a_string_that_is_no_name(self):
        for reserve in ["", "Oil", "and", "never", "abcdefghi", "a b", "oil\n"]:
            self.assert_raises(BadName(reserve), fair, yard(), "push", 0, reserve)
            self.assert_raises(BadName(reserve), fair, yard(), "risk", 0, reserve)

    def test_a_name_that_is_in_use(self):
        for reserve in ["lit", "here", "luck"]:
            self.assert_raises(NameInUse(reserve), fair, yard(), "push", 0, reserve)
            self.assert_raises(NameInUse(reserve), fair, yard(), "risk", 0, reserve)

    def test_the_name_of_an_action(self):
        for reserve in ["push", "wait", "time"]:
            world = fair(yard(), "push", 0, reserve)
            self.assertEqual([world.reserves(), world.actions()], [["luck", reserve], yard().actions()])
            self.assertEqual(world["push"].outcome(1)[reserve], "take")

    def test_an_outcome_that_takes_from_a_reserve_already(self):
        self.assert_raises(NoFreeOutcome("risk"), fair, yard(), "risk", 0, "oil")
        self.assert_raises(NoFreeOutcome("push"), fair, yard(), "push", 1, "oil")
        self.assertEqual(fair(yard(), "risk", 1, "oil")["risk"], Action(~LIT, [
            Outcome({"luck": "take", "oil": "take"}), Outcome({"luck": "add", "oil": "add"}),
        ]))

    def test_arguments_by_names(self):
        self.assertEqual(fair(reserve="oil", index=0, action="push", world=yard()), fair(yard(), "push", 0, "oil"))

    def test_what_cannot_be_put_off_for_ever(self):
        world = World(["lit"])
        world["push"] = Action(~LIT, [Outcome({"lit": True}), Outcome()])
        self.assertFalse(solve(Task(world, ~LIT, LIT)).won)
        self.assertTrue(solve(Task(fair(world, "push", 0, "luck"), ~LIT, LIT)).won)
        self.assertFalse(solve(Task(fair(world, "push", 1, "luck"), ~LIT, LIT)).won)

    def test_good_plans_stay_good(self):
        """A fair world has fewer runs: what is won is won in it."""
        found = 0
        for seed in range(200):
            task = draw_task(seed)
            world = task.base()
            if len(world.counters()) < 3:
                plan = solve(task)
                if plan.won:
                    for name in world.actions():
                        try:
                            other = fair(world, name, 0, "ash")
                        except NoFreeOutcome:
                            continue
                        changed = Plan(other)
                        for state, action in plan.plan.rows():
                            changed[state] = action
                        self.assertIsInstance(judge(Task(other, task.start, task.goal), changed), Measure)
                        found += 1
        self.assertGreater(found, 50)


if __name__ == "__main__":
    unittest.main()
