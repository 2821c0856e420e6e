"""[34] running a program, [35] measures of programs, [36] checking a program; [2] programs at the limits."""

import functools
import operator
import random
import time
import unittest

from noneorsome.actions import Action
from noneorsome.checking import check, is_bad_program_run, program_fault
from noneorsome.conditions import Condition
from noneorsome.errors import Idle
from noneorsome.judging import BadRun
from noneorsome.measure_rows import falls, row_value
from noneorsome.measures import Measure
from noneorsome.outcomes import Outcome
from noneorsome.program_texts import read_program
from noneorsome.programs import Program
from noneorsome.runs import Run
from noneorsome.solving import solve
from noneorsome.stocks import Stock
from noneorsome.tasks import Task
from noneorsome.turning import program_of
from noneorsome.worlds import World
from tests.drawing import draw_condition, draw_program, draw_task, draw_world, just
from tests.numbered import change_run, is_closed, points_by_hand

ALWAYS = Condition.always()
NEVER = Condition.never()
LIT = Condition.of("lit")
HERE = Condition.of("here")
AWAY = Condition.of("away")
BIG = 10 ** 30 - 1
REASONS = ["unfinished", "impossible", "idle", "ring"]


def text(*lines):
    return "\n".join(lines)


def yard():
    world = World(["lit"], ["here", "away"], ["luck"])
    world["move"] = Action(HERE, [Outcome({"here": "take", "away": "add"}), Outcome({"here": "take", "luck": "take"})])
    world["back"] = Action(AWAY, [Outcome({"away": "take", "here": "add"})])
    world["push"] = Action(ALWAYS, [Outcome({"lit": True}), Outcome({"luck": "take"}), Outcome({"lit": False})])
    world["clear"] = Action(ALWAYS, [Outcome({"here": "empty", "luck": "add"})])
    return world


def measure_with(rows):
    measure = Measure()
    for pair, row in rows:
        measure[pair] = row
    return measure


CARRYING = read_program("while here\n  do move")
# Empties here, and then away, in two loops.
BOTH = read_program("while here\n  do move\nwhile away\n  do drop")


def store():
    world = World([], ["here", "away"])
    world["move"] = Action(HERE, [Outcome({"here": "take", "away": "add"}), Outcome({"here": "take"})])
    world["drop"] = Action(ALWAYS, [Outcome({"away": "empty"})])
    return world


class Faults(unittest.TestCase):
    """[35]: the first fault of a measure."""

    def setUp(self):
        self.task = Task(store(), HERE, ~HERE & ~AWAY)
        self.rows = {
            (0, ("here",)): (1, "here", 0), (0, ("here", "away")): (1, "here", 0), (1, ("away",)): (0,),
        }

    def ask(self, changed=None, program=BOTH):
        rows = {**self.rows, **({} if changed is None else changed)}
        return program_fault(self.task, program, measure_with([(pair, row) for pair, row in rows.items() if row is not None]))

    def test_a_measure_that_holds(self):
        self.assertIsNone(self.ask())
        self.assertIsNone(program_fault(measure=measure_with(self.rows.items()), program=BOTH, task=self.task))

    def test_the_order_of_the_rows_has_no_effect(self):
        self.assertIsNone(program_fault(self.task, BOTH, measure_with(list(self.rows.items())[::-1])))

    def test_a_start_without_a_row(self):
        self.assertEqual(self.ask({(0, ("here",)): None}), ("start", ("here",)))
        self.assertEqual(self.ask({(0, ("here", "away")): None}), ("start", ("here", "away")))
        self.assertEqual(self.ask({(0, ("here",)): None, (0, ("here", "away")): None}), ("start", ("here",)))
        self.assertEqual(program_fault(self.task, BOTH, Measure()), ("start", ("here",)))

    def test_a_row_at_another_place_is_none_of_the_start(self):
        self.assertEqual(self.ask({(0, ("here",)): None, (1, ("here",)): (0,)}), ("start", ("here",)))

    def test_a_start_is_ahead_of_the_pairs(self):
        self.assertEqual(self.ask({(0, ("here", "away")): None, (0, ("here",)): (0,)}), ("start", ("here", "away")))

    def test_a_start_in_which_the_program_ends(self):
        self.task.set_start(ALWAYS)
        self.assertEqual(self.ask(), None)
        self.task.set_goal(~HERE & AWAY)
        self.assertEqual(self.ask(), ("start", ()))
        self.assertEqual(program_fault(Task(store(), ALWAYS, HERE), Program.skip(), Measure()), ("start", ()))
        self.assertEqual(program_fault(Task(store(), AWAY, HERE), Program.skip(), Measure()), ("start", ("away",)))
        self.assertIsNone(program_fault(Task(store(), AWAY & HERE, HERE), Program.skip(), Measure()))
        self.assertIsNone(program_fault(Task(store(), NEVER, NEVER), Program.skip(), Measure()))

    def test_idle_at_the_beginning(self):
        for goal in [ALWAYS, NEVER]:
            task = Task(store(), ALWAYS, goal)
            idle = read_program("while here\n  pass\nif away\n  do drop")
            rows = [((0, ("away",)), (0,))]
            if goal == ALWAYS:
                self.assertEqual(program_fault(task, idle, measure_with(rows)), ("start", ("here",)))
                self.assertEqual(program_fault(task, idle, Measure()), ("start", ("away",)))
            else:
                self.assertEqual(program_fault(task, idle, measure_with(rows)), ("start", ()))

    def test_no_row_stands_for_a_reason(self):
        """Keys that look like pairs of a reason and a state are no pairs of a place and a state."""
        junk = [
            ((reason, state), (0,)) for reason in ["idle", "unfinished", "impossible", None, -1] for state in store().states()
        ]
        self.assertEqual(program_fault(Task(store(), HERE, ALWAYS), read_program("while here\n  pass"), measure_with(junk)), *[
            ("start", ("here",)),
        ])
        self.assertEqual(program_fault(Task(store(), HERE, NEVER), Program.skip(), measure_with(junk)), ("start", ("here",)))
        task = Task(store(), ~HERE & ~AWAY, NEVER)
        self.assertEqual(
            program_fault(task, Program.do("drop"), measure_with([*junk, ((0, ()), (1,))])), ("result", 0, (), 0, ()),
        )
        idle = Program.do("drop") >> Program.loop(ALWAYS, Program.skip())
        task.set_goal(ALWAYS)
        self.assertEqual(program_fault(task, idle, measure_with([*junk, ((0, ()), (1,))])), ("result", 0, (), 0, ()))

    def test_an_action_that_is_not_possible(self):
        self.assertEqual(self.ask({(0, ("away",)): (9,)}), ("action", 0, ("away",)))
        self.assertEqual(self.ask({(0, ()): (9,), (0, ("away",)): (9,)}), ("action", 0, ()))

    def test_an_action_that_the_world_does_not_have(self):
        program = read_program("while here\n  do move\nwhile away\n  do burn")
        self.assertEqual(self.ask(program=program), ("action", 1, ("away",)))
        self.assertEqual(self.ask({(1, ()): (0,)}, program), ("action", 1, ()))
        self.assertEqual(program_fault(Task(store(), HERE, HERE), Program.do("burn"), Measure()), ("start", ("here",)))

    def test_a_result_without_a_row(self):
        self.assertEqual(self.ask({(1, ("away",)): None}), ("result", 0, ("here",), 0, ("here",)))
        self.task.set_goal(NEVER)
        self.assertEqual(self.ask(), ("result", 0, ("here",), 1, ("here",)))
        self.assertEqual(self.ask({(0, ("here",)): (1, "here", 5)}), ("result", 0, ("here",), 1, ("here",)))

    def test_a_result_whose_row_does_not_fall(self):
        self.assertEqual(self.ask({(1, ("away",)): (1, "here", 1)}), None)
        self.assertEqual(self.ask({(1, ("away",)): (2,)}), ("result", 0, ("here",), 0, ("here",)))
        self.assertEqual(self.ask({(0, ("here",)): (1, "away", 0)}), ("result", 0, ("here",), 0, ()))
        self.assertEqual(self.ask({(0, ("here", "away")): (2, "here", 0)}), ("result", 0, ("here",), 0, ()))
        self.assertEqual(self.ask({(0, ("here", "away")): (0, "here", 0)}), ("result", 0, ("here", "away"), 0, ("here",)))

    def test_pairs_are_looked_at_by_places_and_then_by_states(self):
        wrong = {(1, ("here",)): (0,), (1, ("away",)): (0,), (0, ("away",)): (0,), (0, ("here", "away")): (0,)}
        self.assertEqual(self.ask(wrong), ("action", 0, ("away",)))
        del wrong[(0, ("away",))]
        self.assertEqual(self.ask(wrong), ("result", 0, ("here", "away"), 0, ()))
        del wrong[(0, ("here", "away"))]
        self.assertEqual(self.ask(wrong), ("result", 1, ("here",), 0, ()))

    def test_pairs_to_which_no_run_comes_count(self):
        self.assertEqual(self.ask({(1, ("here",)): (0,)}), ("result", 1, ("here",), 0, ()))
        self.assertIsNone(self.ask({(1, ("here", "away")): None}))

    def test_an_end_with_and_without_the_goal(self):
        task = Task(store(), ~HERE, ~AWAY)
        program = read_program("do drop\nif away\n  do drop")
        rows = [((0, ()), (0,)), ((0, ("away",)), (0,))]
        self.assertIsNone(program_fault(task, program, measure_with(rows)))
        task.set_goal(AWAY)
        self.assertEqual(program_fault(task, program, measure_with(rows)), ("result", 0, (), 0, ()))

    def test_the_goal_on_the_way_has_no_effect(self):
        self.task.set_goal(ALWAYS)
        self.assertEqual(self.ask({(1, ("away",)): None}), ("result", 0, ("here",), 0, ("here",)))
        self.assertEqual(self.ask({(0, ("here",)): None}), ("start", ("here",)))

    def test_idle_behind_a_result(self):
        idle = read_program("while here\n  do move\nwhile away\n  pass")
        rows = [((0, ("here",)), (1, "here", 0)), ((0, ("here", "away")), (1, "here", 0))]
        for goal in [ALWAYS, ~HERE & ~AWAY]:
            task = Task(store(), HERE, goal)
            self.assertEqual(program_fault(task, idle, measure_with(rows)), ("result", 0, ("here",), 0, ("here",)))

    def test_keys_that_are_no_pairs(self):
        junk = {
            "here": (9,), (): (9,), ("here",): (9,), (2, ("here",)): (9,), (-1, ("here",)): (9,), (0, ("away", "here")): (9,),
            (0, ("q",)): (9,), (0, "here"): (9,), (0, ("here",), 0): (9,), (0,): (9,), ("move", ("here",)): (9,),
            (("here",), 0): (9,), (0, ("here", "here")): (9,), 0: (9,),
        }
        self.assertIsNone(self.ask(junk))

    def test_a_place_beyond_the_last_one(self):
        rows = {(0, ("here",)): (0,), (1, ("here",)): (1,)}
        task = Task(store(), HERE & ~AWAY, ALWAYS)
        self.assertIsNone(program_fault(task, read_program("do move"), measure_with(rows.items())))
        self.assertEqual(program_fault(task, read_program("do move\ndo move"), measure_with(rows.items())), *[
            ("result", 0, ("here",), 0, ()),
        ])

    def test_the_empty_program(self):
        for goal, found in [(ALWAYS, None), (HERE, None), (~AWAY, ("start", ("here", "away"))), (NEVER, ("start", ("here",)))]:
            task = Task(store(), HERE, goal)
            for rows in [[], [((0, ("here",)), (0,))]]:
                self.assertEqual(program_fault(task, Program.skip(), measure_with(rows)), found)

    def test_nothing_is_changed(self):
        measure = measure_with(self.rows.items())
        program_fault(self.task, BOTH, measure)
        self.assertEqual([measure.rows(), self.task.base()], [list(self.rows.items()), store()])


def fault_by_hand(task, program, measure):
    """What [35] tells."""
    world, names = task.base(), program.places()

    def is_good(row, come, state, taken, added):
        """Whether what the program comes to is in order, for a row that has to fall; None for the beginning."""
        try:
            place = come()
        except Idle:
            return False
        if place is None:
            return state in task.goal
        if (place, state) not in measure:
            return False
        return row is None or falls(row, measure[(place, state)], taken, added)

    for state in world.states():
        if state in task.start and not is_good(None, lambda: program.entry(state), state, (), ()):
            return ("start", state)
    order = {state: at for at, state in enumerate(world.states())}
    pairs = [
        key for key, _ in measure.rows() if isinstance(key, tuple) and len(key) == 2 and key[1] in order and isinstance(key[0], int)
    ]
    for place, state in sorted(pairs, key=lambda pair: (pair[0], order[pair[1]])):
        if not 0 <= place < len(names):
            continue
        if names[place] not in world.possible(state):
            return ("action", place, state)
        for index, gone, behind in world.results(state, names[place]):
            shifts = world.shifts(state, names[place], index)
            if not is_good(measure[(place, state)], lambda: program.after(place, behind), behind, *shifts):
                return ("result", place, state, index, gone)
    return None


def change_measure(chance, measure, world, count):
    """A measure in which a row is another one, or gone, or a new one."""
    rows = dict(measure.rows())
    kind = chance.choice(["rank", "gone", "new", "counter", "none"])
    if kind == "new" or not rows:
        rows[(chance.randint(0, count), chance.choice(world.states()))] = (chance.randint(0, 3),)
        return measure_with(rows.items())
    key = chance.choice(list(rows))
    row = list(rows[key])
    if kind == "rank":
        row[0] = max(0, row[0] + chance.choice([-1, 1, 2]))
    elif kind == "counter" and world.counters():
        row = [row[0], chance.choice(world.counters()), *row[2:], *([0] if len(row) < 3 else [])]
    rows[key] = tuple(row)
    if kind == "gone":
        del rows[key]
    return measure_with(rows.items())


class Unfinished(unittest.TestCase):
    """[36]: bad runs whose program has ended."""

    def setUp(self):
        self.task = Task(yard(), HERE & ~LIT, LIT)

    def ask(self, program=CARRYING, **other):
        told = {
            "reason": "unfinished", "state": ("here",), "stock": Stock({"here": 5, "luck": 2}),
            "steps": [("move", 0, {"here": 2, "away": 4}), ("move", 1, {"here": None, "luck": 1})],
        }
        return is_bad_program_run(self.task, program, BadRun(**{**told, **other}))

    def test_a_bad_run(self):
        self.assertIs(self.ask(), True)
        self.assertIs(is_bad_program_run(run=BadRun("unfinished", ("here",), Stock({"here": BIG}), [
            ("move", 0, {"here": None, "away": BIG}),
        ]), program=CARRYING, task=self.task), True)

    def test_the_reason(self):
        for reason in ["ring", "idle", "impossible", "missing", "", "Unfinished"]:
            self.assertIs(self.ask(reason=reason), False)
            self.assertIs(self.ask(reason=reason, back=0), False)
        self.task.set_goal(~HERE)
        for reason in ["unfinished", "", "None", None]:
            self.assertIs(self.ask(reason=reason), False)

    def test_back(self):
        for back in [0, 1, 2, -1]:
            self.assertIs(self.ask(back=back), False)

    def test_the_state(self):
        for state in [(), ("away",), ("here", "away"), ("lit", "here"), ("here", "here"), ("q", "here"), ("luck",)]:
            self.assertIs(self.ask(state=state), False)
        self.task.set_start(AWAY)
        self.assertIs(self.ask(), False)
        self.task.set_start(ALWAYS)
        self.assertIs(self.ask(), True)
        self.assertIs(self.ask(state=("away",)), False)

    def test_the_order_of_a_state(self):
        stock, steps = Stock({"here": 1, "away": 1, "luck": 1}), [("move", 1, {"here": None, "luck": None})]
        self.assertIs(self.ask(state=("here", "away"), stock=stock, steps=steps), True)
        self.assertIs(self.ask(state=("away", "here"), stock=stock, steps=steps), False)

    def test_the_numbers(self):
        for numbers, found in [
            ({"here": 3, "luck": 1}, True), ({"here": 2, "luck": 1}, False), ({"here": 5}, False), ({"luck": 1}, False),
            ({"here": 3, "luck": 1, "away": 1}, False), ({"here": 3, "luck": 1, "lit": 1, "move": 2, "q": 3}, True), ({}, False),
        ]:
            self.assertIs(self.ask(stock=Stock(numbers)), found, numbers)

    def test_the_last_step(self):
        first = ("move", 0, {"here": 2, "away": 4})
        for step, found in [
            (("move", 1, {"here": None, "luck": 2}), True), (("move", 1, {"here": None, "luck": None}), True),
            (("move", 0, {"here": None, "away": 1}), True), (("move", 1, {"here": 3, "luck": 1}), False),
            (("move", 1, {"here": 2, "luck": 1}), False), (("move", 1, {"here": None, "luck": 3}), False),
            (("move", 0, {"here": None, "away": None}), False), (("move", 0, {"here": None, "away": 0}), False),
            (("move", 2, {"here": None, "luck": 1}), False), (("move", -1, {"here": None, "luck": 1}), False),
            (("move", None, {"here": None, "luck": 1}), False), (("move", 1, {"here": None}), False),
            (("move", 1, {"here": None, "luck": 1, "away": 1}), False), (("move", 1, {"here": None, "luck": 1, "q": 1}), False),
            (("clear", 0, {"luck": 1}), False), (("none", 0, {}), False), (("push", 1, {"luck": 1}), False),
        ]:
            self.assertIs(self.ask(steps=[first, step]), found, step)

    def test_a_step_left_out(self):
        self.assertIs(self.ask(steps=[("move", 0, {"here": 2, "away": 4})]), False)
        self.assertIs(self.ask(steps=[]), False)

    def test_a_step_behind_the_end(self):
        steps = [("move", 1, {"here": None, "luck": 1}), ("push", 1, {"luck": 1})]
        self.assertIs(self.ask(steps=steps), False)
        self.assertIs(self.ask(CARRYING >> Program.do("push"), steps=steps), True)

    def test_an_end_with_the_goal(self):
        self.task.set_goal(~HERE)
        self.assertIs(self.ask(), False)
        self.task.set_goal(~HERE & ~AWAY)
        self.assertIs(self.ask(), True)

    def test_the_goal_on_the_way(self):
        for goal in [HERE, HERE & ~AWAY, HERE & AWAY]:
            self.task.set_goal(goal)
            self.assertIs(self.ask(), True)

    def test_a_start_in_which_the_program_ends(self):
        self.assertIs(self.ask(Program.skip(), steps=[]), True)
        self.assertIs(self.ask(read_program("while away\n  do back"), steps=[]), True)
        self.task.set_goal(HERE)
        self.assertIs(self.ask(Program.skip(), steps=[]), False)

    def test_actions_at_other_places(self):
        program = read_program("do move\ndo push\ndo move")
        steps = [("move", 0, {"here": 2, "away": 4}), ("push", 2, {}), ("move", 1, {"here": None, "luck": 1})]
        self.assertIs(self.ask(program, steps=steps), True)
        self.assertIs(self.ask(program, steps=[steps[0], steps[2], steps[1]]), False)
        self.assertIs(self.ask(read_program("do push\ndo move\ndo move"), steps=steps), False)
        self.assertIs(self.ask(read_program("do move\nif lit\n  do push\nelse\n  do push\ndo move"), steps=steps), True)

    def test_nothing_is_changed(self):
        run = BadRun("unfinished", ("here",), Stock({"here": 1}), [("move", 0, {"here": None, "away": 1})])
        self.assertIs(is_bad_program_run(self.task, CARRYING, run), True)
        self.assertEqual([run.stock, run.steps], [Stock({"here": 1}), [("move", 0, {"here": None, "away": 1})]])


class Impossible(unittest.TestCase):
    """[36]: bad runs that come to an action that cannot be done."""

    def ask(self, program, steps, reason="impossible", back=None, goal=LIT):
        run = BadRun(reason, ("here",), Stock({"here": 3, "luck": 3}), steps, back)
        return is_bad_program_run(Task(yard(), HERE & ~AWAY & ~LIT, goal), read_program(program), run)

    def test_at_the_beginning(self):
        self.assertIs(self.ask("do back", []), True)
        self.assertIs(self.ask("do push", []), False)
        self.assertIs(self.ask("do move", []), False)
        self.assertIs(self.ask("pass", []), False)

    def test_an_action_that_the_world_does_not_have(self):
        self.assertIs(self.ask("do burn", []), True)
        self.assertIs(self.ask("do clear\ndo burn", [("clear", 0, {"luck": 1})]), True)
        self.assertIs(self.ask("do burn", [("burn", 0, {})]), False)

    def test_behind_some_steps(self):
        steps = [("move", 0, {"here": 1, "away": 1}), ("move", 1, {"here": None, "luck": 1})]
        self.assertIs(self.ask("while always\n  do move", steps), True)
        self.assertIs(self.ask("while always\n  do move", steps[:1]), False)
        self.assertIs(self.ask("while here\n  do move\ndo move", steps), True)
        self.assertIs(self.ask("while here\n  do move\ndo push", steps), False)
        self.assertIs(self.ask("while always\n  do move", [*steps, ("move", 1, {"here": None, "luck": 1})]), False)

    def test_the_goal_has_no_effect(self):
        for goal in [ALWAYS, NEVER, ~HERE]:
            self.assertIs(self.ask("do back", [], goal=goal), True)
            self.assertIs(self.ask("do clear\ndo move", [("clear", 0, {"luck": 2})], goal=goal), True)

    def test_back_and_the_reason(self):
        steps = [("clear", 0, {"luck": 2})]
        for back in [0, 1, -1]:
            self.assertIs(self.ask("do clear\ndo move", steps, back=back), False)
        for reason in ["unfinished", "idle", "ring", "missing", "not possible"]:
            self.assertIs(self.ask("do clear\ndo move", steps, reason=reason), False)


class IdleRuns(unittest.TestCase):
    """[36]: bad runs that go round without coming to a place."""

    def ask(self, program, steps, reason="idle", back=None, goal=LIT):
        run = BadRun(reason, ("here",), Stock({"here": 3, "luck": 3}), steps, back)
        return is_bad_program_run(Task(yard(), HERE & ~AWAY & ~LIT, goal), read_program(program), run)

    def test_at_the_beginning(self):
        self.assertIs(self.ask("while here\n  pass", []), True)
        self.assertIs(self.ask("while always\n  if away\n    do back", []), True)
        self.assertIs(self.ask("while away\n  pass", []), False)
        self.assertIs(self.ask("while here\n  do move", []), False)

    def test_behind_some_steps(self):
        program = "while here\n  do move\nwhile away\n  pass"
        steps = [("move", 0, {"here": 1, "away": 1}), ("move", 1, {"here": None, "luck": 1})]
        self.assertIs(self.ask(program, steps), True)
        self.assertIs(self.ask(program, steps[:1]), False)
        self.assertIs(self.ask(program, [("move", 1, {"here": None, "luck": 1})]), False)
        self.assertIs(self.ask(program, [*steps, ("push", 2, {})]), False)
        self.assertIs(self.ask("while always\n  pass", steps), False)

    def test_the_goal_has_no_effect(self):
        for goal in [ALWAYS, NEVER, HERE]:
            self.assertIs(self.ask("while here\n  pass", [], goal=goal), True)

    def test_back_and_the_reason(self):
        for back in [0, 1, -1]:
            self.assertIs(self.ask("while here\n  pass", [], back=back), False)
        for reason in ["unfinished", "impossible", "ring", "missing"]:
            self.assertIs(self.ask("while here\n  pass", [], reason=reason), False)
            self.assertIs(self.ask("while here\n  pass", [], reason=reason, back=0), False)


class Rings(unittest.TestCase):
    """[36]: bad runs that can be repeated for ever."""

    PROGRAM = "while not lit\n  while here and not lit\n    do move\n  while away\n    do back"

    def setUp(self):
        self.task = Task(yard(), HERE & ~LIT, LIT)

    def ask(self, program=PROGRAM, **other):
        told = {
            "reason": "ring", "state": ("here",), "stock": Stock({"here": 5, "luck": 1}), "back": 1,
            "steps": [
                ("move", 0, {"here": 2, "away": 4}), ("move", 0, {"here": None, "away": 4}),
                ("back", 0, {"away": None, "here": 5}), ("move", 0, {"here": 1, "away": 8}),
            ],
        }
        return is_bad_program_run(self.task, read_program(program), BadRun(**{**told, **other}))

    def test_a_bad_run(self):
        self.assertIs(self.ask(), True)
        self.assertIs(self.ask(stock=Stock({"here": 5})), True)

    def test_back(self):
        for back in [0, 2, 3, 4, 5, -1, -3, None]:
            self.assertIs(self.ask(back=back), False, back)

    def test_back_equal_to_the_number_of_steps(self):
        self.assertIs(self.ask(steps=[], back=0), False)
        self.assertIs(self.ask(steps=[("move", 0, {"here": 2, "away": 4})], back=1), False)

    def test_the_reason(self):
        for reason in ["unfinished", "idle", "impossible", "missing", "rings"]:
            self.assertIs(self.ask(reason=reason), False)
            self.assertIs(self.ask(reason=reason, back=None), False)

    def test_a_counter_that_has_less(self):
        told = [
            ("move", 0, {"here": 2, "away": 4}), ("move", 0, {"here": None, "away": 4}), ("back", 0, {"away": None, "here": 5}),
        ]
        for amounts, found in [
            ({"here": 2, "away": 4}, True), ({"here": 3, "away": 4}, False), ({"here": 2, "away": 3}, False),
            ({"here": 1, "away": BIG}, True),
        ]:
            self.assertIs(self.ask(steps=[*told, ("move", 0, amounts)]), found)

    def test_a_reserve_that_has_less(self):
        for step, found in [(("push", 1, {"luck": 1}), False), (("push", 2, {}), True)]:
            run = BadRun("ring", (), Stock({"luck": 9}), [step], 0)
            self.assertIs(is_bad_program_run(Task(yard(), ~HERE, LIT), read_program("while not lit\n  do push"), run), found)

    def test_another_place_with_the_same_state(self):
        run = BadRun("ring", (), Stock({"luck": 9}), [("push", 2, {})], 0)
        task = Task(yard(), ~HERE, LIT)
        self.assertIs(is_bad_program_run(task, read_program("do push\nwhile not lit\n  do push"), run), False)
        run = BadRun("ring", (), Stock({"luck": 9}), [("push", 2, {}), ("push", 2, {})], 0)
        self.assertIs(is_bad_program_run(task, read_program("do push\nwhile not lit\n  do push"), run), False)
        run = BadRun("ring", (), Stock({"luck": 9}), [("push", 2, {}), ("push", 2, {})], 1)
        self.assertIs(is_bad_program_run(task, read_program("do push\nwhile not lit\n  do push"), run), True)
        run = BadRun("ring", (), Stock(), [("clear", 0, {"luck": 1})] * 2, 0)
        self.assertIs(is_bad_program_run(task, read_program("while always\n  do clear\n  do clear"), run), True)
        self.assertIs(is_bad_program_run(task, read_program("while always\n  do clear\n  do clear\n  do clear"), run), False)

    def test_another_state_at_the_same_place(self):
        steps = [("push", 2, {}), ("push", 0, {})]
        run = BadRun("ring", (), Stock(), steps, 0)
        self.assertIs(is_bad_program_run(Task(yard(), ~HERE, LIT), read_program("while always\n  do push"), run), False)
        run = BadRun("ring", (), Stock(), [*steps, ("push", 2, {})], 0)
        self.assertIs(is_bad_program_run(Task(yard(), ~HERE, LIT), read_program("while always\n  do push"), run), True)

    def test_the_end_of_the_program_is_no_place(self):
        run = BadRun("ring", (), Stock(), [("clear", 0, {"luck": 1})], 0)
        self.assertIs(is_bad_program_run(Task(yard(), ~HERE, LIT), read_program("do clear"), run), False)

    def test_the_goal_on_the_way(self):
        for goal in [HERE, HERE & AWAY, ALWAYS, AWAY]:
            self.task.set_goal(goal)
            self.assertIs(self.ask(), True)


def shows(task, program, run):
    """What [36] tells, by plain dicts and step by step."""
    world, names = task.base(), program.places()
    points = points_by_hand(world, run)
    if points is None or run.state not in task.start:
        return False
    places = []
    for at, (state, _) in enumerate(points):
        try:
            place = program.entry(state) if at == 0 else program.after(places[-1], state)
        except Idle:
            place = "idle"
        places.append(place)
        if at < len(run.steps) and (place is None or place == "idle" or names[place] != run.steps[at][0]):
            return False
    place, state = places[-1], points[-1][0]
    if run.reason == "ring":
        return is_closed(points, run.back) and places[run.back] == place
    if run.back is not None:
        return False
    if run.reason == "unfinished":
        return place is None and state not in task.goal
    if run.reason == "idle":
        return place == "idle"
    return run.reason == "impossible" and isinstance(place, int) and names[place] not in world.possible(state)


def pairs(count):
    """Drawn tasks with programs, some of which are made of good plans."""
    for seed in range(count):
        task = draw_task(seed)
        solution = solve(task) if seed % 4 == 0 else None
        if solution is not None and solution.won:
            yield task, program_of(task, solution.plan)
        else:
            yield task, draw_program(seed + 5, task)


def right_pairs(count):
    """Drawn tasks that are won, with the programs that are made of their plans."""
    for seed in range(count):
        task = draw_task(seed)
        solution = solve(task)
        if solution.won:
            yield task, program_of(task, solution.plan)


class Checking(unittest.TestCase):
    def test_many_programs(self):
        """A measure or a bad run, each of which is right by another way to tell; and never one where the other exists."""
        chance = random.Random(36)
        found = {reason: 0 for reason in ["right", *REASONS]}
        for task, program in pairs(1000):
            told = check(task, program)
            if isinstance(told, BadRun):
                self.assertIs(is_bad_program_run(task, program, told), True)
                self.assertTrue(shows(task, program, told))
                for _ in range(3):
                    measure = change_measure(chance, Measure(), task.base(), 3)
                    self.assertIsNotNone(program_fault(task, program, measure))
                found[told.reason] += 1
            else:
                self.assertIsInstance(told, Measure)
                self.assertIsNone(program_fault(task, program, told))
                self.assertIsNone(fault_by_hand(task, program, told))
                found["right"] += 1
        self.assertGreater(min(found.values()), 60)

    def test_bad_runs_with_one_part_changed(self):
        chance = random.Random(37)
        found = {True: 0, False: 0}
        for task, program in pairs(400):
            told = check(task, program)
            for _ in range(12 if isinstance(told, BadRun) else 0):
                run = change_run(chance, task.base(), told, REASONS)
                expected = shows(task, program, run)
                self.assertIs(is_bad_program_run(task, program, run), expected, vars(run))
                found[expected] += 1
        self.assertGreater(min(found.values()), 300)

    def test_measures_with_one_part_changed(self):
        chance = random.Random(38)
        found = {}
        for task, program in [*pairs(300), *right_pairs(300)]:
            told = check(task, program)
            measure = Measure() if isinstance(told, BadRun) else told
            for _ in range(8):
                changed = change_measure(chance, measure, task.base(), len(program.places()))
                expected = fault_by_hand(task, program, changed)
                self.assertEqual(program_fault(task, program, changed), expected)
                kind = None if expected is None else expected[0]
                self.assertFalse(expected is None and isinstance(told, BadRun))
                found[kind] = found.get(kind, 0) + 1
        self.assertEqual(set(found), {None, "start", "action", "result"})
        self.assertGreater(min(found.values()), 40)

    def test_right_programs_by_numbers(self):
        """Runs by numbers come to the end and the goal, and the rows fall on the way."""
        chance = random.Random(39)
        steps = 0
        for task, program in [*pairs(200), *right_pairs(400)]:
            measure = check(task, program)
            if isinstance(measure, Measure):
                for state in task.starts() * 3:
                    steps += self.run_once(chance, task, program, measure, state)
        self.assertGreater(steps, 400)

    def run_once(self, chance, task, program, measure, state):
        world, names = task.base(), program.places()
        stock = Stock({name: chance.randint(1, 4) for name in world.counters() if name in state or name in world.reserves()})
        run = Run(world, [name for name in state if name in world.facts()], stock)
        place, before = program.entry(state), None
        while place is not None:
            value = row_value(measure[(place, run.state_now())], run.stock_now())
            self.assertTrue(before is None or value < before)
            before = value
            self.assertIn(names[place], world.possible(run.state_now()))
            self.do_step(chance, world, run, names[place])
            place = program.after(place, run.state_now())
        self.assertIn(run.state_now(), task.goal)
        return len(run.steps_done())

    def do_step(self, chance, world, run, action):
        """Do an action with an outcome and amounts that are possible."""
        for index in chance.sample(range(len(world[action])), len(world[action])):
            outcome = world[action].outcome(index)
            stock = run.stock_now()
            if all(stock[name] > 0 for name in outcome.names() if outcome[name] == "take"):
                amounts = {name: chance.randint(1, stock[name]) for name in outcome.names() if outcome[name] == "take"}
                amounts.update({name: chance.randint(1, 3) for name in outcome.names() if outcome[name] == "add"})
                run.step(action, index, amounts)
                return
        self.fail("no outcome is possible")

    def reason(self, program, start=ALWAYS, goal=LIT, world=None):
        """What `check` tells of the text of a program, which has to be right."""
        task = Task(yard() if world is None else world, start, goal)
        told = check(task, read_program(program))
        if isinstance(told, BadRun):
            self.assertIs(is_bad_program_run(task, read_program(program), told), True)
            return told.reason
        self.assertIsNone(program_fault(task, read_program(program), told))
        return "right"

    def test_each_reason(self):
        self.assertEqual(self.reason("while here\n  do move", goal=~HERE), "right")
        self.assertEqual(self.reason("while here\n  do move", goal=~HERE & AWAY), "unfinished")
        self.assertEqual(self.reason("do back", start=~AWAY), "impossible")
        self.assertEqual(self.reason("do burn"), "impossible")
        self.assertEqual(self.reason("while always\n  pass"), "idle")
        self.assertEqual(self.reason("while not lit\n  do push"), "ring")

    def test_without_steps(self):
        for program, start, reason in [
            ("pass", ~LIT, "unfinished"), ("do burn", HERE, "impossible"), ("while lit\n  pass", LIT & AWAY, "idle"),
        ]:
            told = check(Task(yard(), start, LIT), read_program(program))
            self.assertEqual([told.reason, told.steps, told.back], [reason, [], None])
            self.assertIn(told.state, start)
            self.assertEqual([name for name in ["here", "away"] if told.stock[name] > 0], [n for n in told.state if n != "lit"])

    def test_no_start(self):
        for program in ["pass", "do burn", "while always\n  pass"]:
            self.assertEqual(self.reason(program, start=NEVER, goal=NEVER), "right")
            self.assertEqual(check(Task(yard(), NEVER, NEVER), read_program(program)).rows(), [])

    def test_the_goal_does_not_end_a_run(self):
        self.assertEqual(self.reason("do clear\ndo burn", start=LIT, goal=LIT), "impossible")
        self.assertEqual(self.reason("while always\n  do clear", start=LIT, goal=ALWAYS), "ring")
        self.assertEqual(self.reason("while always\n  pass", start=LIT, goal=ALWAYS), "idle")
        self.assertEqual(self.reason("do clear", start=LIT, goal=LIT), "right")
        self.assertEqual(self.reason("do push", start=LIT, goal=LIT), "unfinished")

    def test_the_same_action_at_two_places(self):
        world = World(["lit"], ["here"])
        world["take"] = Action(HERE, [Outcome({"here": "take"})])
        world["light"] = Action(ALWAYS, [Outcome({"lit": True})])
        self.assertEqual(self.reason("while here\n  do take\n  if here\n    do take\ndo light", world=world), "right")
        self.assertEqual(self.reason("while here\n  do take\n  do take\ndo light", world=world), "impossible")

    def test_counters_one_within_the_other(self):
        program = "while here or away\n  while away\n    do drop\n  if here\n    do move"
        world = World([], ["here", "away"])
        world["move"] = Action(HERE, [Outcome({"here": "take", "away": "add"})])
        world["drop"] = Action(AWAY, [Outcome({"away": "take"})])
        self.assertEqual(self.reason(program, goal=~HERE & ~AWAY, world=world), "right")
        world["drop"] = Action(AWAY, [Outcome({"away": "take", "here": "add"})])
        self.assertEqual(self.reason(program, goal=~HERE & ~AWAY, world=world), "ring")

    def test_a_world_without_names(self):
        world = World()
        world["wait"] = Action(ALWAYS, [Outcome()])
        for program, reason in [("pass", "right"), ("do wait", "right"), ("while always\n  do wait", "ring")]:
            self.assertEqual(self.reason(program, goal=ALWAYS, world=world), reason)
            self.assertEqual(self.reason(program, goal=NEVER, world=world), "unfinished" if reason == "right" else reason)

    def test_arguments_by_names(self):
        told = check(program=Program.skip(), task=Task(yard(), ALWAYS, NEVER))
        self.assertEqual(told.reason, "unfinished")

    def test_nothing_is_changed(self):
        task, program = Task(yard(), HERE, LIT), read_program("while here\n  do move")
        check(task, program)
        self.assertEqual([task.base(), task.start, task.goal, str(program)], [yard(), HERE, LIT, "while here\n  do move"])


def wide_world(seed, takes):
    """A world at the limits of [2] whose actions are possible wherever all piles have some."""
    chance = random.Random(seed)
    world = World(["lit"], ["here", "away", "up"])
    for name in ["a", "b", "c", "d", "e", "f"]:
        world[name] = Action(ALWAYS, [
            Outcome({
                "lit": chance.random() < 0.5,
                **{pile: chance.choice(takes) for pile in world.piles()},
            })
            for _ in range(4)
        ])
    return world


class Limits(unittest.TestCase):
    """[2]: programs at the limits are checked within seconds."""

    def timed(self, call, *args):
        before = time.monotonic()
        found = call(*args)
        self.assertLess(time.monotonic() - before, 6)
        return found

    def check_limit(self, task, program):
        told = self.timed(check, task, program)
        if isinstance(told, BadRun):
            self.assertIs(self.timed(is_bad_program_run, task, program, told), True)
            self.assertIsNotNone(self.timed(program_fault, task, program, Measure()))
            return told.reason
        self.assertIsNone(self.timed(program_fault, task, program, told))
        return "right"

    def deep(self, chance, world, depth, names):
        """A program nested so deep, with these actions."""
        program = Program.do(names[0])
        for at, name in enumerate(names[1:depth + 1]):
            condition = draw_condition(chance, world.seen())
            inner = Program.do(name) >> program
            program = Program.loop(condition, inner) if at % 2 else Program.choose(condition, inner, Program.do(name))
        for name in names[depth + 1:]:
            program = program >> Program.do(name)
        return program

    def test_drawn_worlds(self):
        found = set()
        for seed in range(60):
            chance = random.Random(seed)
            piles = seed % 4
            world = draw_world(chance, 4 - piles, piles, 3 - piles, 6, 4)
            names = [chance.choice(world.actions()) for _ in range(12)]
            goal = just(world.seen(), chance.choice(world.states()))
            program = self.deep(chance, world, 6, names)
            careful = Program.skip()
            for name in names:
                states = [just(world.seen(), state) for state in world.states() if name in world.possible(state)]
                careful = careful >> Program.choose(functools.reduce(operator.or_, states, NEVER), Program.do(name), Program.skip())
            for whole in [program, Program.loop(~goal, program), careful, Program.loop(~goal, careful)]:
                found.add(self.check_limit(Task(world, ALWAYS, goal), whole))
        self.assertGreater(len(found), 3)

    def test_all_results(self):
        """Every action takes from all piles, or adds to and empties them, with all states behind."""
        found = set()
        for seed in range(12):
            chance = random.Random(seed)
            world = wide_world(seed, [["take"], ["add", "empty"], ["empty"], ["add"]][seed % 4])
            full = HERE & AWAY & Condition.of("up")
            start = full if seed % 4 == 0 else ALWAYS
            program = Program.skip()
            for at in range(12):
                step = Program.do(world.actions()[at // 2])
                program = program >> (Program.choose(full, step, Program.skip()) if seed % 4 == 0 else step)
            for until in [full, ALWAYS, LIT | HERE | AWAY]:
                for goal in [~full, NEVER]:
                    found.add(self.check_limit(Task(world, start, goal), Program.loop(until, program)))
                    found.add(self.check_limit(Task(world, start, goal), program))
            found.add(self.check_limit(Task(world, start, ~full), self.deep(chance, world, 6, world.actions() * 2)))
        self.assertGreater(len(found), 2)

    def test_long_conditions(self):
        world = wide_world(1, ["add", "empty"])
        condition = draw_condition(random.Random(2), world.seen())
        while len(str(condition).split()) < 80:
            condition = condition & draw_condition(random.Random(3), world.seen()) | ~condition & LIT
        program = Program.loop(condition, self.deep(random.Random(4), world, 5, world.actions() * 2))
        self.check_limit(Task(world, ALWAYS, ~condition), program)


if __name__ == "__main__":
    unittest.main()
