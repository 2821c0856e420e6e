"""[20] measures, [21] measures that hold, [22] faults of a measure."""

import random
import unittest

from noneorsome.actions import Action
from noneorsome.conditions import Condition
from noneorsome.errors import BadRow, NoRow, OtherWorld
from noneorsome.measure_rows import row_value
from noneorsome.measures import Measure, measure_fault
from noneorsome.outcomes import Outcome
from noneorsome.plans import Plan
from noneorsome.runs import Run
from noneorsome.stocks import Stock
from noneorsome.tasks import Task
from noneorsome.worlds import World
from tests.raising import RaisingCase

ALWAYS = Condition.always()
LIT = Condition.of("lit")
HERE = Condition.of("here")
AWAY = Condition.of("away")


def measure_with(rows):
    measure = Measure()
    for state, row in rows:
        measure[state] = row
    return measure


class Tables(RaisingCase):
    def test_no_rows_at_first(self):
        measure = Measure()
        self.assertEqual([len(measure), measure.rows(), () in measure], [0, [], False])
        self.assert_raises(NoRow(()), measure.__getitem__, ())

    def test_rows_come_back_as_tuples(self):
        measure = measure_with([(("here",), [1, "here", 0]), ((), (0,))])
        self.assertEqual(measure[("here",)], (1, "here", 0))
        self.assertIsInstance(measure[("here",)], tuple)
        self.assertEqual(measure.rows(), [(("here",), (1, "here", 0)), ((), (0,))])
        self.assertEqual(len(measure), 2)

    def test_a_row_that_is_changed_afterwards(self):
        row = [1, "here", 0]
        measure = measure_with([((), row)])
        row[0] = 5
        self.assertEqual(measure[()], (1, "here", 0))

    def test_rows_that_have_not_the_form(self):
        measure = measure_with([(("lit",), (1,))])
        for row in [(), [], (1, "here"), [1, "here"], (-1,), ("here",), [0, 1, 2], (0, "Here", 0), [0, "here", "here"]]:
            self.assert_raises(BadRow(row), measure.__setitem__, ("lit",), row)
            self.assert_raises(BadRow(row), measure.__setitem__, ("here",), row)
        self.assertEqual(measure.rows(), [(("lit",), (1,))])

    def test_the_error_has_what_was_passed(self):
        row = [1, "here"]
        with self.assertRaises(BadRow) as caught:
            Measure()[()] = row
        self.assertEqual(caught.exception.row, [1, "here"])

    def test_a_state_of_another_order_is_a_key_of_its_own(self):
        measure = measure_with([(("lit", "here"), (1,)), (("here", "lit"), (2,)), (("here", "here"), (3,))])
        self.assertEqual(measure[("lit", "here")], (1,))
        self.assertEqual(measure[("here", "lit")], (2,))
        self.assertEqual(len(measure), 3)
        self.assertNotIn(("lit",), measure)
        self.assert_raises(NoRow(("lit", "lit")), measure.__getitem__, ("lit", "lit"))

    def test_a_row_that_is_set_again_keeps_its_place(self):
        measure = measure_with([(("b",), (1,)), (("a",), (2,)), ((), (3,))])
        measure[("a",)] = (7, "here", 7)
        measure[("b",)] = (9,)
        self.assertEqual(measure.rows(), [(("b",), (9,)), (("a",), (7, "here", 7)), ((), (3,))])
        self.assertEqual(len(measure), 3)

    def test_pairs_of_a_place_and_a_state(self):
        measure = measure_with([((0, ("here",)), (1,)), ((1, ("here",)), (0,))])
        self.assertEqual([measure[(1, ("here",))], (0, ("here",)) in measure, (0, ()) in measure], [(0,), True, False])
        self.assert_raises(NoRow((2, ())), measure.__getitem__, (2, ()))

    def test_rows_are_a_list_of_their_own(self):
        measure = measure_with([((), (1,))])
        measure.rows().clear()
        self.assertEqual(len(measure), 1)

    def test_a_measure_is_not_iterated_over(self):
        with self.assertRaises(TypeError):
            list(Measure())


def yard():
    """Carrying takes from `here`, and may do more; the lamp can be lit for good."""
    world = World(["lit"], ["here", "away"], ["luck"])
    world["carry"] = Action(HERE, [Outcome({"here": "take", "away": "add"}), Outcome({"here": "take", "luck": "add"})])
    world["light"] = Action(ALWAYS, [Outcome({"lit": True}), Outcome({"lit": True, "here": "add"})])
    world["clear"] = Action(ALWAYS, [Outcome({"away": "empty"})])
    world["play"] = Action(ALWAYS, [Outcome({"luck": "take"}), Outcome({"lit": True})])
    return world


def plan_with(rows, world=None):
    plan = Plan(yard() if world is None else world)
    for state, action in rows:
        plan[state] = action
    return plan


# Lights the lamp, and then carries until nothing is here.
GOOD_PLAN = [
    ((), "light"), (("away",), "light"), (("here",), "light"), (("here", "away"), "light"),
    (("lit", "here"), "carry"), (("lit", "here", "away"), "carry"),
]
GOOD_ROWS = [
    ((), (1,)), (("away",), (1,)), (("here",), (1,)), (("here", "away"), (1,)),
    (("lit", "here"), (0, "here", 0)), (("lit", "here", "away"), (0, "here", 0)),
]


class Faults(RaisingCase):
    def setUp(self):
        self.task = Task(yard(), ~LIT, LIT & ~HERE)

    def fault(self, plan, rows):
        return measure_fault(self.task, plan_with(plan), measure_with(rows))

    def changed(self, rows, **other):
        """Rows in which some are replaced or, by None, left out; the names of a state are joined by `_`."""
        told = {tuple(name for name in key.split("_") if name): worth for key, worth in other.items()}
        table = {**dict(rows), **told}
        return [(state, worth) for state, worth in table.items() if worth is not None]

    def test_a_measure_that_holds(self):
        self.assertIsNone(self.fault(GOOD_PLAN, GOOD_ROWS))
        self.assertIsNone(self.fault(GOOD_PLAN, list(reversed(GOOD_ROWS))))
        self.assertIsNone(measure_fault(measure=measure_with(GOOD_ROWS), plan=plan_with(GOOD_PLAN), task=self.task))

    def test_a_start_that_is_missing(self):
        self.assertEqual(self.fault(GOOD_PLAN, self.changed(GOOD_ROWS, here=None)), ("start", ("here",)))
        rows = self.changed(GOOD_ROWS, here_away=None, away=None)
        self.assertEqual(self.fault(GOOD_PLAN, rows), ("start", ("away",)))

    def test_the_empty_measure(self):
        self.assertEqual(self.fault(GOOD_PLAN, []), ("start", ()))
        self.assertEqual(self.fault([], []), ("start", ()))
        self.task.set_start(LIT & ~HERE)
        self.assertIsNone(self.fault([], []))
        self.task.set_start(Condition.never())
        self.assertIsNone(self.fault([], []))

    def test_a_start_is_ahead_of_all_other_faults(self):
        rows = self.changed(GOOD_ROWS, here_away=None, away=(0,))
        plan = self.changed(GOOD_PLAN, lit_here=None)
        self.assertEqual(self.fault(plan, rows), ("start", ("here", "away")))

    def test_a_state_without_a_row_in_the_plan(self):
        for state in [(), ("here",), ("lit", "here", "away")]:
            plan = [row for row in GOOD_PLAN if row[0] != state]
            self.assertEqual(self.fault(plan, GOOD_ROWS), ("plan", state))
        plan = self.changed(GOOD_PLAN, lit_here=None, lit_here_away=None)
        self.assertEqual(self.fault(plan, GOOD_ROWS), ("plan", ("lit", "here")))

    def test_a_result_outside_of_the_measure(self):
        rows = self.changed(GOOD_ROWS, lit_here_away=None)
        self.assertEqual(self.fault(GOOD_PLAN, rows), ("result", ("away",), 1, ()))
        plan = self.changed(GOOD_PLAN, away="clear")
        rows = self.changed(rows, away=(2,))
        self.assertEqual(self.fault(plan, rows), ("result", ("here", "away"), 0, ()))

    def test_a_row_that_does_not_fall(self):
        for row, fault in [
            ((1,), ("result", (), 1, ())), ((2,), ("result", (), 1, ())), ((0,), ("result", ("lit", "here"), 0, ())),
            ((0, "away", 0), ("result", ("lit", "here"), 0, ())), ((0, "luck", 0), ("result", ("lit", "here"), 0, ())),
        ]:
            self.assertEqual(self.fault(GOOD_PLAN, self.changed(GOOD_ROWS, lit_here=row)), fault)

    def test_the_first_one_of_the_results(self):
        """Only what carrying adds is wrong: the other outcome, which adds to no pile, is told by its index."""
        rows = self.changed(GOOD_ROWS, lit_here=(0, "luck", 0, "here", 0), lit_here_away=(0, "luck", 0, "here", 0))
        self.assertEqual(self.fault(GOOD_PLAN, rows), ("result", ("lit", "here"), 1, ()))
        rows = self.changed(GOOD_ROWS, lit_here=(1, "here", 0), lit_here_away=(0, "here", 0), here=(2,))
        rows = self.changed(rows, **{"": (2,), "away": (2,), "here_away": (2,)})
        self.assertIsNone(self.fault(GOOD_PLAN, rows))

    def test_gone_is_told(self):
        """By the goal it depends which of the results with something gone is the first wrong one."""
        world = World([], ["here", "away"])
        world["carry"] = Action(HERE & AWAY, [Outcome({"here": "take", "away": "take"})])
        plan = plan_with([(("here", "away"), "carry")], world)
        measure = measure_with([(("here", "away"), (0, "here", 0))])
        for goal, gone in [
            (~HERE & ~AWAY, ("here",)), (~AWAY, ("here",)), (HERE & ~AWAY, ("here",)),
            (~HERE & AWAY, ("here", "away")), (~HERE, ("away",)),
        ]:
            fault = measure_fault(Task(world, HERE & AWAY, goal), plan, measure)
            self.assertEqual(fault, ("result", ("here", "away"), 0, gone))
        self.assertIsNone(measure_fault(Task(world, HERE & AWAY, ~HERE | ~AWAY), plan, measure))

    def test_plan_and_result_by_states(self):
        plan = self.changed(GOOD_PLAN, here_away=None, away=None)
        rows = self.changed(GOOD_ROWS, here=(0,))
        self.assertEqual(self.fault(plan, rows), ("plan", ("away",)))
        plan = self.changed(GOOD_PLAN, here_away=None)
        self.assertEqual(self.fault(plan, rows), ("result", ("here",), 0, ()))

    def test_states_for_which_the_goal_holds_are_not_looked_at(self):
        for rows in [{"lit": (0,)}, {"lit": (99, "luck", 0), "lit_away": (0, "here", 0)}]:
            self.assertIsNone(self.fault(GOOD_PLAN, self.changed(GOOD_ROWS, **rows)))
        plan = self.changed(GOOD_PLAN, lit="clear", lit_away="light")
        self.assertIsNone(self.fault(plan, GOOD_ROWS))
        self.assertIsNone(self.fault(plan, self.changed(GOOD_ROWS, lit=(0,))))
        self.task.set_start(ALWAYS)
        self.assertIsNone(self.fault(GOOD_PLAN, GOOD_ROWS))

    def test_states_that_are_in_the_measure_without_need_count_too(self):
        self.task.set_start(LIT & HERE)
        self.assertIsNone(self.fault(GOOD_PLAN[4:], GOOD_ROWS[4:]))
        self.assertEqual(self.fault(GOOD_PLAN[4:], GOOD_ROWS[3:]), ("plan", ("here", "away")))

    def test_rows_of_the_plan_without_need_do_not_count(self):
        self.task.set_start(LIT & HERE)
        plan = self.changed(GOOD_PLAN, here="clear", away="play")
        self.assertIsNone(self.fault(plan, GOOD_ROWS[4:]))

    def test_keys_that_are_no_states(self):
        strange = [(("here", "lit"), (0,)), (("q",), (0,)), (("here", "here"), (0,)), ((0, ("here",)), (0,))]
        self.assertIsNone(self.fault(GOOD_PLAN, GOOD_ROWS + strange))
        rows = [row for row in GOOD_ROWS if row[0] != ("here", "away")] + [(("away", "here"), (1,))]
        self.assertEqual(self.fault(GOOD_PLAN, rows), ("start", ("here", "away")))

    def test_shifts_of_a_reserve_and_of_an_emptied_pile(self):
        task = Task(yard(), ~LIT, LIT)
        plan = plan_with([(state, "play") for state in yard().states() if "lit" not in state])
        rows = [(state, (0, "luck", 0)) for state in yard().states() if "lit" not in state]
        self.assertIsNone(measure_fault(task, plan, measure_with(rows)))
        plan[("away",)] = "clear"
        self.assertEqual(measure_fault(task, plan, measure_with(rows)), ("result", ("away",), 0, ()))
        rows = [(state, (0, "away", *row)) for state, row in rows]
        self.assertIsNone(measure_fault(task, plan, measure_with(rows)))
        plan[()] = "clear"
        self.assertEqual(measure_fault(task, plan, measure_with(rows)), ("result", (), 0, ()))

    def test_other_worlds(self):
        world = yard()
        world["clear"] = Action(ALWAYS, [Outcome({"here": "empty"})])
        for other in [world, World(), World(["lit"], ["here", "away"], ["luck"])]:
            for rows in [GOOD_ROWS, []]:
                self.assert_raises(OtherWorld(), measure_fault, self.task, Plan(other), measure_with(rows))
        self.assertEqual(measure_fault(self.task, Plan(yard()), Measure()), ("start", ()))

    def test_nothing_is_changed(self):
        plan, measure = plan_with(GOOD_PLAN), measure_with(GOOD_ROWS)
        measure_fault(self.task, plan, measure)
        self.assertEqual(plan, plan_with(GOOD_PLAN))
        self.assertEqual(measure.rows(), GOOD_ROWS)
        self.assertEqual(self.task.base(), yard())


class FallingRuns(unittest.TestCase):
    """[21]: along a run by numbers the rows, with the numbers in them, are a falling sequence."""

    def test_runs_by_numbers(self):
        chance = random.Random(21)
        task = Task(yard(), ~LIT, LIT & ~HERE)
        plan, measure = plan_with(GOOD_PLAN), measure_with(GOOD_ROWS)
        for _ in range(200):
            numbers = {name: chance.choice([0, 1, 2, 5]) for name in ["here", "away", "luck"]}
            run = Run(yard(), [], Stock(numbers))
            before = None
            while run.state_now() not in task.goal:
                value = row_value(measure[run.state_now()], run.stock_now())
                self.assertTrue(before is None or value < before)
                before = value
                self.step(chance, run, plan[run.state_now()])

    def step(self, chance, run, action):
        index = chance.randrange(len(yard()[action]))
        outcome = yard()[action].outcome(index)
        amounts = {}
        for name in outcome.names():
            if outcome[name] in ("take", "add"):
                most = run.stock_now()[name] if outcome[name] == "take" else 4
                amounts[name] = chance.randint(1, most)
        run.step(action, index, amounts)


if __name__ == "__main__":
    unittest.main()
