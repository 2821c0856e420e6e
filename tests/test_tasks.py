"""[16] tasks."""

import unittest

from noneorsome.actions import Action
from noneorsome.conditions import Condition
from noneorsome.errors import UnknownName
from noneorsome.outcomes import Outcome
from noneorsome.tasks import Task
from noneorsome.worlds import World
from tests.raising import RaisingCase

ALWAYS = Condition.always()
NEVER = Condition.never()
LIT = Condition.of("lit")
HERE = Condition.of("here")
IDLE = Action(ALWAYS, [Outcome()])


def yard():
    world = World(["lit"], ["here", "away"], ["luck"])
    world["wait"] = IDLE
    return world


class Tasks(RaisingCase):
    def test_what_it_is_made_of(self):
        task = Task(yard(), LIT, ~HERE)
        self.assertEqual(task.base(), yard())
        self.assertEqual([task.start, task.goal], [LIT, ~HERE])
        self.assertEqual([str(task.start), str(task.goal)], ["lit", "not here"])

    def test_names_of_arguments(self):
        task = Task(goal=HERE, world=yard(), start=LIT)
        task.set_start(condition=HERE)
        task.set_goal(condition=LIT)
        self.assertEqual([task.start, task.goal], [HERE, LIT])

    def test_starts_and_goals_are_in_the_order_of_the_states(self):
        task = Task(yard(), HERE | LIT, ~HERE & ~Condition.of("away"))
        self.assertEqual(task.starts(), [
            ("here",), ("here", "away"), ("lit",), ("lit", "away"), ("lit", "here"), ("lit", "here", "away"),
        ])
        self.assertEqual(task.goals(), [(), ("lit",)])

    def test_no_start_and_every_goal(self):
        task = Task(yard(), NEVER, ALWAYS)
        self.assertEqual(task.starts(), [])
        self.assertEqual(task.goals(), yard().states())
        self.assertEqual(Task(World(), ALWAYS, NEVER).starts(), [()])
        self.assertEqual(Task(World(), ALWAYS, NEVER).goals(), [])

    def test_lists_are_of_their_own(self):
        task = Task(yard(), ALWAYS, ALWAYS)
        task.starts().clear()
        task.goals().clear()
        self.assertEqual([len(task.starts()), len(task.goals())], [8, 8])

    def test_set_start_and_set_goal(self):
        task = Task(yard(), LIT, HERE)
        self.assertIsNone(task.set_start(HERE & LIT))
        self.assertEqual([task.start, task.goal], [HERE & LIT, HERE])
        self.assertIsNone(task.set_goal(NEVER))
        self.assertEqual([task.start, task.goal], [HERE & LIT, NEVER])
        self.assertEqual(task.starts(), [("lit", "here"), ("lit", "here", "away")])
        self.assertEqual(task.goals(), [])


class UnknownNames(RaisingCase):
    def test_strange_names(self):
        for name in ["q", "luck", "wait", "z"]:
            self.assert_raises(UnknownName(name), Task, yard(), Condition.of(name), ALWAYS)
            self.assert_raises(UnknownName(name), Task, yard(), ALWAYS, HERE | ~Condition.of(name))

    def test_the_first_one_in_ascending_order(self):
        wrong = Condition.of("z") & HERE & (Condition.of("luck") | Condition.of("b"))
        self.assert_raises(UnknownName("b"), Task, yard(), wrong, ALWAYS)
        self.assert_raises(UnknownName("b"), Task, yard(), LIT, wrong)

    def test_the_start_is_ahead_of_the_goal(self):
        self.assert_raises(UnknownName("z"), Task, yard(), Condition.of("z"), Condition.of("a"))

    def test_names_count_where_they_have_no_effect(self):
        self.assert_raises(UnknownName("q"), Task, yard(), Condition.of("q") & NEVER, ALWAYS)

    def test_nothing_changes_behind_the_error(self):
        task = Task(yard(), LIT, HERE)
        wrong = Condition.of("z") & Condition.of("luck") & LIT
        self.assert_raises(UnknownName("luck"), task.set_start, wrong)
        self.assert_raises(UnknownName("luck"), task.set_goal, wrong)
        self.assertEqual([task.start, task.goal], [LIT, HERE])
        self.assertEqual(len(task.starts()), 4)


class Copies(unittest.TestCase):
    def test_a_passed_world_that_is_changed_afterwards(self):
        world = yard()
        task = Task(world, ALWAYS, NEVER)
        world["push"] = IDLE
        world.remove("wait")
        self.assertEqual(task.base(), yard())

    def test_the_base_is_a_copy(self):
        task = Task(yard(), ALWAYS, NEVER)
        task.base().remove("wait")
        task.base()["push"] = IDLE
        self.assertEqual(task.base(), yard())

    def test_the_world_is_left_as_it_is(self):
        world = yard()
        task = Task(world, LIT, HERE)
        task.set_start(HERE)
        task.starts()
        self.assertEqual(world, yard())


if __name__ == "__main__":
    unittest.main()
