"""The worked examples of the document, in its order."""

import unittest

from noneorsome.amounts import All, Some
from noneorsome.checking import check, program_fault
from noneorsome.condition_texts import read_condition
from noneorsome.conditions import Condition
from noneorsome.counterplays import Counterplay, counterplay_fault
from noneorsome.errors import BadAmount, BadChange, BadEdit, BadLine, BadText, Idle, NotPossible
from noneorsome.fairness import fair
from noneorsome.judging import judge
from noneorsome.keepers import Keeper
from noneorsome.looks import least_looks, parted
from noneorsome.matches import Match
from noneorsome.measure_rows import falls, row_value
from noneorsome.measures import measure_fault
from noneorsome.needs import least_actions
from noneorsome.outcomes import Outcome
from noneorsome.plan_texts import read_plan, write_plan
from noneorsome.plans import Plan
from noneorsome.program_texts import read_program
from noneorsome.programs import Program
from noneorsome.runs import Run
from noneorsome.solving import solve, won_states
from noneorsome.stocks import Stock
from noneorsome.task_texts import read_task, write_task
from noneorsome.tasks import Task
from noneorsome.turning import plan_of
from noneorsome.worlds import World
from tests.raising import RaisingCase

HERE = Condition.of("here")


# The tasks that the document reads again and again.
CARRYING = (
    "facts\npiles here\nreserves\nstart here\ngoal not here\naction carry\nneed here\noutcome here take"
)
STIRRING = (
    "facts\npiles here\nreserves\nstart here\ngoal not here\naction stir\nneed here\noutcome here take\noutcome here add"
)
WAITING = (
    "facts open\npiles here\nreserves\nstart always\ngoal not here\naction wait\nneed always\noutcome\n"
    "action carry\nneed here\noutcome here take\naction clear\nneed here\noutcome here empty"
)
PUSHING = (
    "facts open\npiles\nreserves\nstart not open\ngoal open\naction push\nneed not open\noutcome open yes\noutcome"
)


class Conditions(RaisingCase):
    def test_the_text_of_a_condition(self):
        a = Condition.of("open")
        b = Condition.of("here")
        self.assertEqual(str(~(a | b) & b), "not (open or here) and here")

    def test_comparing_and_asking(self):
        a = Condition.of("open")
        b = Condition.of("here")
        answers = [a & b <= a, a <= a & b, a == ~~a, (a | b)(["here"]), ("here", "open") in a & b]
        self.assertEqual(answers, [True, False, True, True, True])

    def test_reading(self):
        self.assertEqual(str(read_condition("here and(not (open) or  here)")), "here and (not open or here)")

    def test_wrong_texts(self):
        self.assert_raises(BadText(9), read_condition, "here and or")
        self.assert_raises(BadText(9), read_condition, "not (here")


class Amounts(RaisingCase):
    def test_unknown_amounts(self):
        self.assertEqual([None + Some(), None - Some(), None - All()], ["add", "take", "empty"])


class Worlds(RaisingCase):
    def test_a_change_that_is_none(self):
        self.assert_raises(BadChange("here", "some"), Outcome, {"open": True, "here": "some"})

    def test_seen_names_counters_and_states(self):
        world = World(["open"], ["here"], ["luck"])
        found = [world.seen(), world.counters(), world.states()]
        self.assertEqual(found, [["open", "here"], ["here", "luck"], [(), ("here",), ("open",), ("open", "here")]])

    def test_possible_actions_results_and_shifts(self):
        world = read_task(CARRYING).base()
        found = [world.possible([]), world.results(["here"], "carry"), world.shifts(["here"], "carry", 0)]
        self.assertEqual(found, [[], [(0, (), ("here",)), (0, ("here",), ())], (("here",), ())])

    def test_an_action_that_is_not_possible(self):
        self.assert_raises(NotPossible((), "carry"), read_task(CARRYING).base().results, [], "carry")

    def test_joined_worlds(self):
        joined = World(["open"], ["here"]) | World([], ["there"], ["luck"])
        self.assertEqual(joined.states()[:3], [(), ("there",), ("here",)])


class Runs(RaisingCase):
    def test_two_steps(self):
        run = Run(read_task(CARRYING).base(), [], Stock({"here": 3}))
        first = run.step("carry", 0, {"here": 2})
        state = run.state_now()
        second = run.step("carry", 0, {"here": 1})
        self.assertEqual([first, state, second, run.state_now()], [(), ("here",), ("here",), ()])

    def test_an_amount_that_is_too_great(self):
        run = Run(read_task(CARRYING).base(), [], Stock({"here": 3}))
        self.assert_raises(BadAmount("here"), run.step, "carry", 0, {"here": 4})


class Measures(unittest.TestCase):
    def test_rows_that_fall_and_that_do_not(self):
        self.assertEqual([
            falls((1,), (0, "here", 0), [], []), falls((0, "here", 0), (0, "here", 5), ["here"], []),
            falls((0, "here", 0), (0, "here", 0), [], []), falls((0, "here", 1), (0, "here", 0), [], ["here"]),
        ], [True, True, False, False])

    def test_the_value_of_a_row(self):
        self.assertEqual(row_value((1, "here", 0), Stock({"here": 4})), [1, 4, 0])


class Plans(unittest.TestCase):
    def test_a_plan_without_rows(self):
        task = read_task(CARRYING)
        bad = judge(task, Plan(task.base()))
        self.assertEqual([bad.reason, bad.state, bad.steps, bad.back], ["missing", ("here",), [], None])

    def test_a_good_plan(self):
        task = read_task(CARRYING)
        plan = read_plan(task.base(), "here: carry")
        self.assertIs(measure_fault(task, plan, judge(task, plan)), None)

    def test_a_task_that_is_won(self):
        solution = solve(read_task(CARRYING))
        self.assertEqual([solution.won, solution.plan.rows()], [True, [(("here",), "carry")]])

    def test_a_task_that_is_lost(self):
        task = read_task(STIRRING)
        self.assertEqual([solve(task).won, won_states(task)], [False, [()]])


class Counterplays(unittest.TestCase):
    def test_faults(self):
        task = read_task(STIRRING)
        good = Counterplay([(("here",), {"here": 1}, {"stir": (1, (), 0)})])
        bad = Counterplay([(("here",), {"here": 1}, {"stir": (0, (), 0)})])
        faults = [
            counterplay_fault(task, good), counterplay_fault(task, bad), counterplay_fault(task, bad, without=["stir"]),
        ]
        self.assertEqual(faults, [None, ("rise", 0, "stir", "here"), None])

    def test_a_match(self):
        match = Match(read_task(STIRRING), Counterplay([(("here",), {"here": 1}, {"stir": (1, (), 0)})]))
        first = match.answer("stir")
        second = match.answer("stir")
        found = [first, second, match.stock_now()["here"], match.position_now()]
        self.assertEqual(found, [(1, {"here": 1}), (1, {"here": 1}), 3, 0])


class Programs(RaisingCase):
    def test_the_text_of_a_program(self):
        program = Program.loop(HERE, Program.do("carry") >> Program.skip())
        self.assertEqual(str(program * 2), "while here\n  do carry\nwhile here\n  do carry")

    def test_places(self):
        program = read_program("while here\n  do carry\nif open\n  pass\nelse\n  do push")
        found = [program.places(), program.entry(["here"]), program.entry([]), program.after(0, ["open"])]
        self.assertEqual([*found, program.after(1, [])], [["carry", "push"], 0, 1, None, None])

    def test_a_loop_without_a_body(self):
        self.assert_raises(BadLine(1), read_program, "while here\ndo carry")

    def test_a_program_that_idles(self):
        program = read_program("while open\n  if here\n    do carry")
        self.assert_raises(Idle(("open",)), program.entry, ("open",))

    def test_a_program_that_is_right(self):
        task = read_task(CARRYING)
        program = read_program("while here\n  do carry")
        self.assertIs(program_fault(task, program, check(task, program)), None)

    def test_a_program_that_ends_too_early(self):
        self.assertEqual(check(read_task(CARRYING), read_program("do carry")).reason, "unfinished")

    def test_the_plan_of_a_program(self):
        plan = plan_of(read_task(WAITING), read_program("if here\n  do clear\nelse\n  do wait"))
        self.assertEqual(plan.rows(), [((), "wait"), (("here",), "clear"), (("open",), "wait"), (("open", "here"), "clear")])


class Fairness(unittest.TestCase):
    def test_an_outcome_that_cannot_be_put_off(self):
        task = read_task(PUSHING)
        other = Task(fair(task.base(), "push", 0, "luck"), task.start, task.goal)
        self.assertEqual([solve(task).won, solve(other).won, other.base().reserves()], [False, True, ["luck"]])


class LeastSets(unittest.TestCase):
    def test_least_actions(self):
        self.assertEqual(least_actions(read_task(WAITING)), [("carry",), ("clear",)])

    def test_least_looks(self):
        plan = read_plan(read_task(WAITING).base(), "here: carry\nopen: wait\n-: wait\nopen here: carry")
        found = [least_looks(plan), parted(plan, ["open"]), parted(plan, ["here", "here"])]
        self.assertEqual(found, [[("here",)], ((), ("here",)), None])


class Texts(RaisingCase):
    def test_the_text_of_a_plan(self):
        plan = read_plan(read_task(WAITING).base(), "here: carry\nopen: wait\n-: wait\nopen here: carry")
        self.assertEqual(write_plan(plan), "-: wait\nhere: carry\nopen: wait\nopen here: carry")

    def test_the_text_of_a_task(self):
        self.assertEqual(write_task(read_task(PUSHING)), PUSHING)

    def test_a_text_that_is_cut_off(self):
        self.assert_raises(BadLine(2), read_task, "facts open\npiles")

    def test_an_action_that_always_takes_from_a_reserve(self):
        self.assert_raises(BadLine(7), read_task, (
            "facts open\npiles\nreserves luck\nstart not open\ngoal open\naction push\nneed always\n"
            "outcome luck take, open yes"
        ))


class Keepers(RaisingCase):
    def test_an_edit_that_is_taken_back(self):
        keeper = Keeper(read_task(STIRRING))
        keeper.drop("stir")
        keeper.undo()
        self.assertEqual([keeper.history(), keeper.won_now(), keeper.stands()], [[], [()], False])

    def test_edits_that_cannot_be_done_together(self):
        keeper = Keeper(read_task(STIRRING))
        self.assert_raises(BadEdit(1), keeper.attempt, [("drop", "stir"), ("drop", "stir")])


if __name__ == "__main__":
    unittest.main()
