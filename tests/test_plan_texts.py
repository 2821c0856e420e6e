"""[44] texts of plans."""

import random
import re
import unittest

from noneorsome.actions import Action
from noneorsome.conditions import Condition
from noneorsome.errors import BadLine, NoState, NotPossible, UnknownAction
from noneorsome.outcomes import Outcome
from noneorsome.plan_texts import read_plan, write_plan
from noneorsome.plans import Plan
from noneorsome.worlds import World
from tests.drawing import draw_plan, draw_task
from tests.raising import RaisingCase

ALWAYS = Condition.always()


def yard():
    world = World(["lit", "wet"], ["here"], ["luck"])
    world["wait"] = Action(ALWAYS, [Outcome()])
    world["carry"] = Action(Condition.of("here"), [Outcome({"here": "take"})])
    world["lit"] = Action(~Condition.of("lit"), [Outcome({"lit": True})])
    return world


def plan_with(rows):
    plan = Plan(yard())
    for state, action in rows:
        plan[state] = action
    return plan


class Writing(unittest.TestCase):
    def test_plans(self):
        for rows, written in [
            ([], ""), ([((), "wait")], "-: wait"), ([(("here",), "carry")], "here: carry"),
            ([(("lit", "wet", "here"), "carry"), ((), "lit"), (("wet",), "wait")], "-: lit\nwet: wait\nlit wet here: carry"),
        ]:
            self.assertEqual(write_plan(plan_with(rows)), written)
            self.assertEqual(write_plan(plan=plan_with(rows)), written)

    def test_nothing_is_changed(self):
        plan = plan_with([((), "wait")])
        write_plan(plan)
        self.assertEqual(plan, plan_with([((), "wait")]))


class Reading(RaisingCase):
    def check(self, rows, written):
        plan = read_plan(yard(), written)
        self.assertIsInstance(plan, Plan)
        self.assertEqual(plan, plan_with(rows))

    def check_fault(self, index, written, cause=None):
        self.assert_raises(BadLine(index), read_plan, yard(), written)
        if cause is not None:
            with self.assertRaises(BadLine) as caught:
                read_plan(yard(), written)
            self.assertIs(type(caught.exception.__cause__), type(cause))
            self.assertEqual(vars(caught.exception.__cause__), vars(cause))

    def test_plans(self):
        self.check([], "")
        self.check([((), "wait")], "-: wait")
        self.check([(("here",), "carry"), ((), "lit")], "here: carry\n-: lit")
        self.check([(("lit", "wet", "here"), "wait")], "lit wet here: wait")

    def test_lines_and_names_in_any_order(self):
        rows = [((), "wait"), (("wet", "here"), "carry"), (("lit", "here"), "wait")]
        for written in [
            "-: wait\nwet here: carry\nlit here: wait", "here wet: carry\nhere lit: wait\n-: wait",
            "lit here: wait\n-: wait\nhere wet: carry",
        ]:
            self.check(rows, written)
        self.check([(("lit", "wet", "here"), "wait")], "here wet lit: wait")

    def test_what_is_written_is_read_again(self):
        chance = random.Random(44)
        for seed in range(300):
            task = draw_task(seed)
            plan = draw_plan(seed, task)
            written = write_plan(plan)
            again = read_plan(task.base(), written)
            self.assertEqual(again, plan)
            self.assertEqual(write_plan(again), written)
            lines = [" ".join(chance.sample(names.split(), len(names.split()))) + ":" + rest for names, _, rest in [
                line.partition(":") for line in written.split("\n") if written
            ]]
            chance.shuffle(lines)
            self.assertEqual(read_plan(text="\n".join(lines), world=task.base()), plan)

    def test_the_world_is_copied(self):
        world = yard()
        plan = read_plan(world, "-: wait")
        world.remove("wait")
        self.assertEqual(plan, plan_with([((), "wait")]))
        self.assertEqual(plan.base(), yard())

    def test_line_feeds(self):
        self.check_fault(0, "\n")
        self.check_fault(0, "\n-: wait")
        self.check_fault(1, "-: wait\n")
        self.check_fault(1, "-: wait\n\nhere: carry")
        self.check_fault(2, "-: wait\nhere: carry\n\n")

    def test_lines_of_another_form(self):
        for line in [
            "wait", "-", "-:", "-: ", ": wait", "-:wait", "-  : wait", "- : wait", "-:  wait", "-: wait ", " -: wait", "-; wait",
            "-: wait: wait", "-: wait wait", "here", "here:", "here carry", "here:carry", "here : carry", " here: carry", "--: wait",
            "here, lit: carry", "here  lit: carry", "here -: carry", "- here: carry", "here: : carry", " ", "():wait", "-:\twait",
        ]:
            self.check_fault(0, line)
            self.check_fault(1, "wet: wait\n" + line)
        self.check_fault(1, "wet: wait\n")

    def test_states_that_are_none(self):
        for names in ["q", "luck", "wait", "here q", "here here", "lit here lit", "Here", "here luck", "carry"]:
            self.check_fault(0, f"{names}: wait", NoState(names.split(" ")))
            self.check_fault(1, f"-: wait\n{names}: wait", NoState(names.split(" ")))

    def test_states_that_have_a_row_already(self):
        self.check_fault(1, "-: wait\n-: wait")
        self.check_fault(1, "-: wait\n-: lit")
        self.check_fault(2, "here lit: wait\n-: wait\nlit here: carry")
        self.check_fault(1, "here: wait\nhere: burn")

    def test_actions_that_are_not_possible(self):
        self.check_fault(0, "-: carry", NotPossible((), "carry"))
        self.check_fault(1, "-: wait\nwet lit: carry", NotPossible(("lit", "wet"), "carry"))
        self.check_fault(0, "lit: lit", NotPossible(("lit",), "lit"))
        for name in ["burn", "Wait", "-", "here"]:
            self.check_fault(0, f"-: {name}", UnknownAction(name))

    def test_the_first_line_counts(self):
        self.check_fault(1, "-: wait\nhere: burn\n-: wait\nq: wait")

    def test_the_cause_is_none_for_a_line_of_another_form(self):
        for written in ["\n", "-:wait", "-: wait\n-: wait"]:
            with self.assertRaises(BadLine) as caught:
                read_plan(yard(), written)
            self.assertIsNone(caught.exception.__cause__)

    def test_other_line_ends(self):
        self.check_fault(0, "-: wait\r\nhere: wait")
        self.check_fault(0, "-: wait\u2028here: wait")

    def test_a_world_without_seen_names(self):
        world = World([], [], ["luck"])
        world["wait"] = Action(ALWAYS, [Outcome()])
        self.assertEqual(read_plan(world, "-: wait").rows(), [((), "wait")])
        self.assert_raises(BadLine(0), read_plan, world, "luck: wait")


def fault_by_hand(world, written):
    """The line of the first fault, by patterns."""
    met = []
    for at, line in enumerate(written.split("\n") if written else []):
        if not re.fullmatch("(-|[a-z]+( [a-z]+)*): [a-z]+", line):
            return at
        names, action = line.split(": ")
        names = [] if names == "-" else names.split()
        state = tuple(name for name in world.seen() if name in names)
        if len(state) < len(names) or state in met or action not in world.possible(state):
            return at
        met.append(state)
    return None


class Mutated(unittest.TestCase):
    def test_many_texts(self):
        chance = random.Random(45)
        found = {True: 0, False: 0}
        for seed in range(300):
            task = draw_task(seed)
            written = write_plan(draw_plan(seed, task))
            for _ in range(10):
                signs = list(written)
                at = chance.randint(0, len(signs))
                if chance.random() < 0.5:
                    signs[at:at + chance.randint(0, 1)] = [chance.choice([" ", ":", "-", "\n", "a", "here", ": ", "lit ", "\n-: act"])]
                else:
                    lines = written.split("\n")
                    at = chance.randrange(len(lines))
                    lines[at:at + chance.randint(0, 1)] = [chance.choice([chance.choice(lines), f"-: {chance.choice(task.base().actions())}"])]
                    signs = list("\n".join(lines))
                other = "".join(signs)
                expected = fault_by_hand(task.base(), other)
                try:
                    read_plan(task.base(), other)
                    self.assertIsNone(expected, other)
                except BadLine as error:
                    self.assertEqual(error.index, expected, other)
                found[expected is None] += 1
        self.assertGreater(min(found.values()), 100)


if __name__ == "__main__":
    unittest.main()
