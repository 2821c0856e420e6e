"""[17] plans."""

import operator
import unittest

from noneorsome.actions import Action
from noneorsome.conditions import Condition
from noneorsome.errors import NoRow, NoState, NotPossible, OtherWorld, UnknownAction
from noneorsome.outcomes import Outcome
from noneorsome.plans import Plan
from noneorsome.worlds import World
from tests.raising import RaisingCase

ALWAYS = Condition.always()
HERE = Condition.of("here")


def yard():
    world = World(["lit"], ["here", "away"], ["luck"])
    world["carry"] = Action(HERE, [Outcome({"here": "take", "away": "add"})])
    world["wait"] = Action(ALWAYS, [Outcome()])
    return world


def plan_with(rows, world=None):
    plan = Plan(yard() if world is None else world)
    for state, action in rows:
        plan[state] = action
    return plan


ONE = [(("here",), "carry"), (("lit",), "wait"), ((), "wait")]
OTHER = [(("here",), "wait"), (("lit",), "wait"), (("lit", "here"), "carry")]


class Rows(RaisingCase):
    def test_no_rows_at_first(self):
        plan = Plan(yard())
        self.assertEqual([len(plan), plan.rows(), () in plan], [0, [], False])
        self.assertEqual(Plan(world=World()).rows(), [])

    def test_a_row_for_a_state_in_any_order(self):
        for names in [("lit", "here", "away"), ["away", "lit", "here"], ("here", "away", "lit")]:
            plan = plan_with([(names, "carry")])
            self.assertEqual(plan.rows(), [(("lit", "here", "away"), "carry")])
            for again in [("away", "here", "lit"), ["here", "lit", "away"]]:
                self.assertEqual([plan[again], plan(again), again in plan], ["carry", "carry", True])

    def test_the_argument_of_a_call_by_its_place(self):
        self.assertEqual(plan_with(ONE)(["here"]), "carry")

    def test_a_row_that_is_replaced(self):
        plan = plan_with(ONE)
        plan[["here"]] = "wait"
        self.assertEqual([plan[("here",)], len(plan)], ["wait", 3])

    def test_rows_are_in_the_order_of_the_states(self):
        plan = plan_with([(state, "wait") for state in reversed(yard().states())])
        self.assertEqual(plan.rows(), [(state, "wait") for state in yard().states()])
        self.assertEqual(len(plan), 8)
        plan[()] = "wait"
        self.assertEqual(plan.rows()[0], ((), "wait"))

    def test_rows_are_a_list_of_their_own(self):
        plan = plan_with(ONE)
        plan.rows().clear()
        self.assertEqual(plan.rows(), [((), "wait"), (("here",), "carry"), (("lit",), "wait")])

    def test_removing(self):
        plan = plan_with(ONE)
        self.assertIsNone(plan.remove(["here"]))
        self.assertEqual(plan.rows(), [((), "wait"), (("lit",), "wait")])
        self.assert_raises(NoRow(("here",)), plan.remove, ["here"])
        plan[("here",)] = "wait"
        self.assertEqual(plan[("here",)], "wait")
        plan.remove(state=("lit",))
        self.assertEqual(len(plan), 2)

    def test_in_for_what_is_no_state(self):
        plan = plan_with([(("lit", "here"), "wait"), (("lit",), "wait")])
        for state, found in [
            (("here", "lit"), True), (["lit"], True), (("lit", "lit"), False), (["here", "lit", "here"], False),
            (("luck",), False), (("lit", "q"), False), (("carry",), False), ([], False), (("away",), False),
        ]:
            self.assertIs(state in plan, found, state)


class Errors(RaisingCase):
    def test_setting(self):
        plan = plan_with(ONE)
        for state in [["q"], ("here", "here"), ("luck",), ["lit", "away", "lit"]]:
            self.assert_raises(NoState(state), plan.__setitem__, state, "none")
        self.assert_raises(UnknownAction("none"), plan.__setitem__, ["lit"], "none")
        self.assert_raises(UnknownAction("here"), plan.__setitem__, ("away",), "here")
        self.assert_raises(NotPossible(("lit", "away"), "carry"), plan.__setitem__, ["away", "lit"], "carry")
        self.assertEqual(plan, plan_with(ONE))

    def test_two_wrong_things_at_once(self):
        world = yard()
        world["push"] = Action(Condition.never(), [Outcome()])
        plan = Plan(world)
        self.assert_raises(NoState(("q",)), plan.__setitem__, ("q",), "none")
        self.assert_raises(NoState(("q",)), plan.__setitem__, ("q",), "push")
        self.assert_raises(UnknownAction("none"), plan.__setitem__, ("lit",), "none")
        self.assertEqual(len(plan), 0)

    def test_an_action_that_only_lacks_things_to_take(self):
        world = yard()
        world["take"] = Action(ALWAYS, [Outcome(), Outcome({"here": "take"})])
        plan = Plan(world)
        self.assert_raises(NotPossible(("lit",), "take"), plan.__setitem__, ("lit",), "take")
        plan[["here"]] = "take"
        self.assertEqual(plan.rows(), [(("here",), "take")])

    def test_getting_and_removing(self):
        plan = plan_with(ONE)
        for ask in [plan, plan.__getitem__, plan.remove]:
            for state in [["q"], ("lit", "lit"), ["here", "luck"]]:
                self.assert_raises(NoState(state), ask, state)
            self.assert_raises(NoRow(("lit", "away")), ask, ["away", "lit"])
            self.assert_raises(NoRow(("away",)), ask, ("away",))
        self.assertEqual(plan, plan_with(ONE))


class Copies(RaisingCase):
    def test_the_world(self):
        world = yard()
        plan = Plan(world)
        world.remove("wait")
        plan.base().remove("carry")
        self.assertEqual(plan.base(), yard())
        plan[()] = "wait"
        self.assertEqual(plan[()], "wait")

    def test_a_copy_is_independent(self):
        plan = plan_with(ONE)
        twin = plan.copy()
        self.assertEqual(twin, plan)
        twin[()] = "wait"
        twin.remove(("lit",))
        twin[("here",)] = "wait"
        self.assertEqual(plan, plan_with(ONE))
        plan.remove(())
        self.assertEqual(twin.rows(), [((), "wait"), (("here",), "wait")])

    def test_a_state_that_is_changed_afterwards(self):
        plan = Plan(yard())
        state = ["here"]
        plan[state] = "wait"
        state.append("lit")
        self.assertEqual(plan.rows(), [(("here",), "wait")])


class Signs(RaisingCase):
    def test_either_both_and_apart(self):
        one, other = plan_with(ONE), plan_with(OTHER)
        for found, rows in [
            (one | other, [((), "wait"), (("here",), "carry"), (("lit",), "wait"), (("lit", "here"), "carry")]),
            (other | one, [((), "wait"), (("here",), "wait"), (("lit",), "wait"), (("lit", "here"), "carry")]),
            (one & other, [(("lit",), "wait")]), (other & one, [(("lit",), "wait")]),
            (one - other, [((), "wait")]), (other - one, [(("lit", "here"), "carry")]),
            (one - one, []), (one & one, plan_with(ONE).rows()), (one | Plan(yard()), plan_with(ONE).rows()),
            (Plan(yard()) | one, plan_with(ONE).rows()), (one - Plan(yard()), plan_with(ONE).rows()),
        ]:
            self.assertEqual(found.rows(), rows)
            self.assertEqual(found.base(), yard())
        self.assertEqual([one, other], [plan_with(ONE), plan_with(OTHER)])

    def test_the_results_are_plans_of_their_own(self):
        one, other = plan_with(ONE), plan_with(OTHER)
        for sign in [operator.or_, operator.and_, operator.sub]:
            found = sign(one, other)
            for state, _ in found.rows():
                found.remove(state)
            found[("away",)] = "wait"
            self.assertEqual([one, other], [plan_with(ONE), plan_with(OTHER)])
        found = one | Plan(yard())
        one.remove(())
        self.assertEqual(found, plan_with(ONE))

    def test_changing_the_very_object(self):
        one, other = plan_with(ONE), plan_with(OTHER)
        same = one
        one |= other
        self.assertIs(one, same)
        self.assertEqual(same, plan_with(ONE) | plan_with(OTHER))
        self.assertEqual(other, plan_with(OTHER))
        other.remove(("lit", "here"))
        self.assertIn(("lit", "here"), same)
        same |= same
        self.assertEqual(len(same), 4)

    def test_other_worlds(self):
        changed = yard()
        changed["wait"] = Action(ALWAYS, [Outcome(), Outcome()])
        fewer = yard()
        fewer.remove("wait")
        moved = fewer.copy()
        moved["wait"] = Action(ALWAYS, [Outcome()])
        self.assertEqual(moved, yard())
        for world in [changed, fewer, World(["lit"], ["here", "away"]), World()]:
            one, other = plan_with(ONE), Plan(world)
            for sign in [operator.or_, operator.and_, operator.sub, operator.ior]:
                self.assert_raises(OtherWorld(), sign, one, other)
                self.assert_raises(OtherWorld(), sign, other, one)
            self.assertEqual(one, plan_with(ONE))
            self.assertEqual(len(other), 0)

    def test_signs_beside_other_objects(self):
        for sign in [operator.or_, operator.and_, operator.sub, operator.ior]:
            for other in [5, [], {}, yard(), None]:
                with self.assertRaises(TypeError):
                    sign(plan_with(ONE), other)

    def test_a_plan_is_not_iterated_over(self):
        with self.assertRaises(TypeError):
            list(plan_with(ONE))


class Comparing(unittest.TestCase):
    def test_equal_plans(self):
        self.assertTrue(plan_with(ONE) == plan_with(list(reversed(ONE))))
        self.assertFalse(plan_with(ONE) != plan_with(ONE))
        self.assertTrue(plan_with(ONE) != plan_with(OTHER))
        self.assertFalse(plan_with(ONE[:2]) == plan_with(ONE))

    def test_plans_for_worlds_that_differ_in_one_action(self):
        world = yard()
        world["wait"] = Action(ALWAYS, [Outcome({"lit": True})])
        one, other = plan_with(ONE), plan_with(ONE, world)
        self.assertFalse(one == other)
        self.assertTrue(one != other)
        self.assertFalse(one <= other or one >= other)
        more = yard()
        more["push"] = Action(ALWAYS, [Outcome()])
        self.assertFalse(Plan(yard()) <= Plan(more) or Plan(yard()) == Plan(more))

    def test_other_kinds_of_objects(self):
        plan = plan_with(ONE)
        for other in [yard(), None, 3, plan.rows(), dict(plan.rows()), "plan", Outcome()]:
            self.assertFalse(plan == other)
            self.assertFalse(other == plan)
            self.assertTrue(plan != other)
        with self.assertRaises(TypeError):
            plan <= 3

    def test_rows_that_the_other_one_has(self):
        none, one, more = Plan(yard()), plan_with(ONE[:2]), plan_with(ONE)
        for small, great, found in [
            (none, none, True), (none, one, True), (one, none, False), (one, more, True), (more, one, False),
            (more, more, True), (more, plan_with(ONE), True), (plan_with(OTHER[:1]), more, False),
            (plan_with(OTHER), more, False), (more, plan_with(OTHER), False),
            (plan_with([(("here",), "wait")]), plan_with([(("here",), "carry")]), False),
        ]:
            self.assertIs(small <= great, found)
            self.assertIs(great >= small, found)


if __name__ == "__main__":
    unittest.main()
