"""The interface: arguments passed by the names that are listed, in another order."""

import inspect
import unittest

from noneorsome import errors
from noneorsome.actions import Action
from noneorsome.checking import check, is_bad_program_run, program_fault
from noneorsome.condition_texts import read_condition
from noneorsome.conditions import Condition
from noneorsome.counterplays import Counterplay, counterplay_fault
from noneorsome.fairness import fair
from noneorsome.judging import BadRun, is_bad_run, judge
from noneorsome.keepers import Keeper, Trial
from noneorsome.looks import least_looks, parted
from noneorsome.matches import Match
from noneorsome.measure_rows import falls, is_row, row_value
from noneorsome.measures import Measure, measure_fault
from noneorsome.needs import least_actions
from noneorsome.outcomes import Outcome
from noneorsome.plan_texts import read_plan, write_plan
from noneorsome.plans import Plan
from noneorsome.program_texts import read_program
from noneorsome.programs import Program
from noneorsome.runs import Run
from noneorsome.solving import Lost, Won, solve, won_states
from noneorsome.stocks import Stock
from noneorsome.task_texts import read_task, write_task
from noneorsome.tasks import Task
from noneorsome.turning import plan_of, program_of
from noneorsome.worlds import World
from tests.losing import losing_play, losing_task

HERE = Condition.of("here")
TEXT = (
    "facts lit\npiles here\nreserves luck\nstart here\ngoal not here\naction carry\nneed here\n"
    "outcome here take\noutcome lit yes, luck take"
)
PLAN = "here: carry\nlit here: carry"
PROGRAM = "while here\n  do carry"


def task():
    return read_task(TEXT)


def world():
    return task().base()


def plan():
    return read_plan(world(), PLAN)


def program():
    return read_program(PROGRAM)


def measure():
    return judge(task(), plan())


def bad_run():
    return BadRun("missing", ("here",), Stock({"here": 1}), [])


# What is called, each on objects of its own, and the arguments in the order of the interface.
CALLS = [
    (lambda: read_condition, ["here and lit"]), (lambda: Condition.of, ["here"]),
    (lambda: Outcome, [{"here": "add"}]), (lambda: Action, [HERE, [Outcome()]]), (lambda: world()["carry"].outcome, [1]),
    (lambda: World, [["lit"], ["here"], ["luck"]]), (lambda: world().remove, ["carry"]), (lambda: world().state_of, [["here", "lit"]]),
    (lambda: world().possible, [["here"]]), (lambda: world().results, [["here"], "carry"]),
    (lambda: world().shifts, [["here"], "carry", 1]), (lambda: Stock, [{"here": 2}]),
    (lambda: Run, [world(), ["lit"], Stock({"here": 3})]), (lambda: Run(world(), [], Stock({"here": 3})).step, ["carry", 0, {"here": 2}]),
    (lambda: Task, [world(), HERE, ~HERE]), (lambda: task().set_start, [HERE]), (lambda: task().set_goal, [HERE]),
    (lambda: Plan, [world()]), (lambda: plan().remove, [["here"]]),
    (lambda: is_row, [(1, "here", 0)]), (lambda: falls, [(1,), (0,), ["here"], []]),
    (lambda: row_value, [(1, "here", 0), Stock({"here": 2})]), (lambda: measure_fault, [task(), plan(), Measure()]),
    (lambda: BadRun, ["ring", (), Stock(), [], 0]), (lambda: is_bad_run, [task(), plan(), bad_run()]), (lambda: judge, [task(), plan()]),
    (lambda: Counterplay, [losing_play().rows()]), (lambda: losing_play().state_at, [1]), (lambda: losing_play().floor_at, [1, "here"]),
    (lambda: losing_play().reply_at, [1, "stir"]), (lambda: counterplay_fault, [losing_task(), losing_play(), ["stir"]]),
    (lambda: Match, [losing_task(), losing_play()]), (lambda: Match(losing_task(), losing_play()).answer, ["stir"]),
    (lambda: Won, [plan(), measure()]), (lambda: Lost, [losing_play()]), (lambda: solve, [task(), ["carry"]]),
    (lambda: won_states, [task(), ["carry"]]), (lambda: Program.do, ["carry"]), (lambda: Program.loop, [HERE, Program.do("carry")]),
    (lambda: Program.choose, [HERE, Program.do("carry"), Program.do("push")]), (lambda: program().entry, [["here"]]),
    (lambda: program().after, [0, ["here"]]), (lambda: read_program, [PROGRAM]),
    (lambda: program_fault, [task(), program(), Measure()]), (lambda: is_bad_program_run, [task(), program(), bad_run()]),
    (lambda: check, [task(), program()]), (lambda: program_of, [task(), plan()]), (lambda: plan_of, [task(), program()]),
    (lambda: least_actions, [task()]), (lambda: parted, [plan(), ["here"]]), (lambda: least_looks, [plan()]),
    (lambda: fair, [world(), "carry", 0, "ash"]), (lambda: write_task, [task()]), (lambda: read_task, [TEXT]),
    (lambda: write_plan, [plan()]), (lambda: read_plan, [world(), PLAN]), (lambda: Keeper, [task()]),
    (lambda: Keeper(task()).put, ["act", Action(HERE, [Outcome()])]), (lambda: Keeper(task()).drop, ["carry"]),
    (lambda: Keeper(task()).aim, [HERE, HERE]), (lambda: Keeper(task()).keep, [plan()]),
    (lambda: Keeper(task()).attempt, [[("drop", "carry")]]), (lambda: Trial, [Keeper(task())]),
]


def looks(value):
    """What can be compared of a value that has no `==`."""
    if isinstance(value, (list, tuple)):
        return [looks(part) for part in value]
    if hasattr(value, "__dict__") and type(value).__eq__ is object.__eq__:
        return type(value), {name: looks(part) for name, part in vars(value).items()}
    return value


class Keywords(unittest.TestCase):
    def test_every_call(self):
        for called, arguments in CALLS:
            call = called()
            names = [name for name in inspect.signature(call).parameters]
            with self.subTest(f"{call} {names}"):
                self.assertEqual(len(names), len(arguments))
                told = dict(list(zip(names, arguments))[::-1])
                keywords_only = [
                    name for name, one in inspect.signature(call).parameters.items() if one.kind is inspect.Parameter.KEYWORD_ONLY
                ]
                before = [value for name, value in zip(names, arguments) if name not in keywords_only]
                expected = called()(*before, **{name: told[name] for name in keywords_only})
                self.assertEqual(looks(call(**told)), looks(expected))

    def test_each_call_that_yields(self):
        self.assertEqual(list(world().moves(state=["here"])), list(world().moves(["here"])))

    def test_errors(self):
        for name, kind in vars(errors).items():
            if inspect.isclass(kind) and kind is not errors.PlanError:
                names = list(inspect.signature(kind).parameters)
                told = {argument: argument * 2 for argument in names[::-1]}
                self.assertEqual(vars(kind(**told)), told, name)

    def test_what_may_be_left_out(self):
        self.assertEqual(len(Outcome()), 0)
        self.assertEqual(World(piles=["here"]).seen(), ["here"])
        self.assertEqual(World(reserves=("luck",), facts=("lit",)).counters(), ["luck"])
        self.assertEqual(Stock().names(), [])
        self.assertIsNone(BadRun(steps=[], stock=Stock(), state=(), reason="idle").back)
        self.assertIs(solve(task()).won, True)


if __name__ == "__main__":
    unittest.main()
