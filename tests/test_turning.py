"""[37] plans as programs, programs as plans; [2] at the limits."""

import random
import time
import unittest

from noneorsome.actions import Action
from noneorsome.checking import check, program_fault
from noneorsome.conditions import Condition
from noneorsome.deciding import condition_for
from noneorsome.errors import Idle, NotPossible, OtherWorld, PlanError, TwoActions
from noneorsome.judging import judge
from noneorsome.measures import Measure
from noneorsome.outcomes import Outcome
from noneorsome.plans import Plan
from noneorsome.program_texts import read_program
from noneorsome.programs import Program
from noneorsome.solving import solve
from noneorsome.states import all_states
from noneorsome.tasks import Task
from noneorsome.turning import plan_of, program_of
from noneorsome.worlds import World
from tests.drawing import draw_plan, draw_program, draw_task, draw_world, just
from tests.raising import RaisingCase

ALWAYS = Condition.always()
NEVER = Condition.never()
LIT = Condition.of("lit")
HERE = Condition.of("here")


def yard():
    world = World(["lit"], ["here"], ["luck"])
    world["take"] = Action(HERE, [Outcome({"here": "take"}), Outcome({"luck": "take"})])
    world["fill"] = Action(ALWAYS, [Outcome({"here": "add"})])
    world["push"] = Action(ALWAYS, [Outcome({"lit": True}), Outcome()])
    world["off"] = Action(LIT, [Outcome({"lit": False})])
    return world


def plan_with(rows, world=None):
    plan = Plan(yard() if world is None else world)
    for state, action in rows:
        plan[state] = action
    return plan


class Conditions(unittest.TestCase):
    """What programs of plans ask for."""

    def test_all_sets_of_states(self):
        for count in range(4):
            seen = ["lit", "here", "away"][:count]
            states = all_states(seen)
            for bits in range(1 << len(states)):
                some = [state for at, state in enumerate(states) if bits >> at & 1]
                condition = condition_for(seen, some)
                self.assertEqual([state for state in states if state in condition], some)
                self.assertTrue(set(condition.names()) <= set(seen))

    def test_they_are_short(self):
        seen = ["lit", "here"]
        for states, told in [
            ([], "never"), (all_states(seen), "always"), ([("here",), ("lit", "here")], "here"), ([("here",)], "not lit and here"),
            ([(), ("here",)], "not lit"), ([("lit",), ("here",), ("lit", "here")], "lit or here"),
            ([(), ("lit",), ("here",)], "not lit or not here"), ([(), ("lit", "here")], "lit and here or not lit and not here"),
        ]:
            self.assertEqual(str(condition_for(seen, states)), told)


class ProgramOf(RaisingCase):
    def check_program(self, task, plan):
        """Check where the program of a plan comes to in all states; return it."""
        program = program_of(task, plan)
        self.assertIsInstance(program, Program)
        places = program.places()
        for state in task.base().states():
            for come in [program.entry(state), *[program.after(place, state) for place in range(len(places))]]:
                if state in task.goal or state not in plan:
                    self.assertIsNone(come)
                else:
                    self.assertEqual(places[come], plan[state])
        return program

    def test_many_plans(self):
        """The program is right exactly if the plan is good, and it is taken by all functions."""
        found = {True: 0, False: 0}
        for seed in range(500):
            task = draw_task(seed)
            solution = solve(task)
            plan = solution.plan if solution.won and seed % 2 else draw_plan(seed, task)
            program = self.check_program(task, plan)
            good = isinstance(judge(task, plan), Measure)
            told = check(task, program)
            self.assertIs(isinstance(told, Measure), good)
            if good:
                self.assertIsNone(program_fault(task, program, told))
            self.assertTrue(read_program(str(program)) == program)
            back = plan_of(task, program)
            self.assertTrue(back <= plan)
            found[good] += 1
        self.assertGreater(min(found.values()), 100)

    def test_a_plan_without_rows(self):
        self.assertEqual(self.check_program(Task(yard(), ALWAYS, LIT), Plan(yard())).places(), [])

    def test_rows_of_the_goal_alone(self):
        plan = plan_with([(("lit",), "off"), (("lit", "here"), "take")])
        self.assertEqual(self.check_program(Task(yard(), ALWAYS, LIT), plan).places(), [])
        self.assertEqual(len(self.check_program(Task(yard(), ALWAYS, LIT & HERE), plan).places()), 1)

    def test_a_row_for_each_state(self):
        plan = plan_with([((), "fill"), (("here",), "take"), (("lit",), "off"), (("lit", "here"), "push")])
        for goal in [NEVER, ALWAYS, LIT, ~HERE, LIT & HERE]:
            self.check_program(Task(yard(), ALWAYS, goal), plan)

    def test_one_action(self):
        plan = plan_with([(("here",), "take"), (("lit", "here"), "take")])
        self.assertEqual(str(self.check_program(Task(yard(), HERE, ~HERE), plan)), "while here\n  do take")

    def test_a_world_without_names(self):
        world = World()
        world["wait"] = Action(ALWAYS, [Outcome()])
        self.check_program(Task(world, ALWAYS, NEVER), plan_with([((), "wait")], world))
        self.check_program(Task(world, ALWAYS, ALWAYS), plan_with([((), "wait")], world))

    def test_arguments_by_names(self):
        program = program_of(plan=plan_with([((), "fill")]), task=Task(yard(), ALWAYS, HERE))
        self.assertEqual(program.places(), ["fill"])

    def test_other_worlds(self):
        world = yard()
        world.remove("fill")
        for other in [World(), world]:
            self.assert_raises(OtherWorld(), program_of, Task(yard(), ALWAYS, LIT), Plan(other))

    def test_nothing_is_changed(self):
        task, plan = Task(yard(), HERE, LIT), plan_with([((), "fill")])
        program_of(task, plan)
        self.assertEqual([task.base(), plan], [yard(), plan_with([((), "fill")])])


def plan_by_hand(task, program):
    """What [37] tells of `plan_of`: its rows, or its error as a tuple."""
    world, names = task.base(), program.places()
    idle, reached = set(), set()
    fresh = [(program.entry, (state,), state) for state in task.starts()]
    while fresh:
        call, told, state = fresh.pop()
        try:
            place = call(*told)
        except Idle:
            idle.add(state)
            continue
        if place is None or (place, state) in reached:
            continue
        reached.add((place, state))
        if names[place] in world.possible(state):
            for _, _, behind in world.results(state, names[place]):
                fresh.append((program.after, (place, behind), behind))
    states = world.states()
    for state in states:
        if state in idle:
            return ("Idle", state)
    for place, state in sorted(reached, key=lambda pair: (pair[0], states.index(pair[1]))):
        if names[place] not in world.possible(state):
            return ("NotPossible", state, names[place])
    rows = []
    for state in states:
        done = [names[place] for place in range(len(names)) if (place, state) in reached]
        if len(set(done)) > 1:
            return ("TwoActions", state, done[0], [action for action in done if action != done[0]][0])
        rows += [(state, action) for action in done[:1]]
    return rows


class PlanOf(RaisingCase):
    def told(self, task, program):
        try:
            return plan_of(task, program).rows()
        except PlanError as error:
            return (type(error).__name__, *vars(error).values())

    def test_many_programs(self):
        found = {}
        for seed in range(1500):
            task = draw_task(seed)
            program = draw_program(seed + 5, task)
            expected = plan_by_hand(task, program)
            self.assertEqual(self.told(task, program), expected)
            kind = expected[0] if isinstance(expected, tuple) else len(expected) > 0
            found[kind] = found.get(kind, 0) + 1
        self.assertGreater(min(found.values()), 20)
        self.assertEqual(len(found), 5)

    def check(self, rows, program, start=ALWAYS, goal=NEVER):
        plan = plan_of(Task(yard(), start, goal), read_program(program))
        self.assertIsInstance(plan, Plan)
        self.assertEqual(plan, plan_with(rows))

    def check_error(self, error, program, start=ALWAYS, goal=NEVER, world=None):
        task = Task(yard() if world is None else world, start, goal)
        self.assert_raises(error, plan_of, task, read_program(program))

    def test_states_that_runs_reach(self):
        self.check([], "pass")
        self.check([((), "fill")], "do fill", ~LIT & ~HERE)
        self.check([((), "push"), (("here",), "push")], "do push", ~LIT)
        self.check([((), "fill"), (("here",), "take")], "do fill\ndo take", ~LIT & ~HERE)
        self.check([(("here",), "take"), (("lit",), "push")], "if here\n  do take\nelse\n  do push", ~LIT & HERE | LIT & ~HERE)
        self.check([], "do take", NEVER)

    def test_states_behind_a_result(self):
        self.check([((), "push"), (("lit",), "off")], "while not lit\n  do push\ndo off", ~LIT & ~HERE)
        program = "while always\n  if here\n    do take\n  else\n    do fill"
        self.check([((), "fill"), (("here",), "take")], program, ~LIT & HERE)
        self.check([((), "fill"), (("here",), "take")], program, ~LIT & ~HERE)

    def test_states_of_the_goal(self):
        self.check([((), "fill")], "do fill", ~LIT & ~HERE, ALWAYS)
        self.check([((), "fill"), (("here",), "take")], "do fill\ndo take", ~LIT & ~HERE, HERE)

    def test_the_same_action_at_two_places(self):
        self.check([((), "fill"), (("here",), "fill")], "do fill\ndo fill", ~LIT & ~HERE)
        self.check([((), "push"), (("lit",), "push")], "do push\ndo push\ndo push", ~LIT & ~HERE)

    def test_idle(self):
        self.check_error(Idle(("here",)), "while here\n  pass")
        self.check_error(Idle(("lit", "here")), "while here\n  pass", LIT)
        self.check_error(Idle(()), "while not here\n  pass", ALWAYS, ALWAYS)
        self.check([], "while here\n  pass", ~HERE)

    def test_idle_behind_a_result(self):
        self.check_error(Idle(("lit",)), "do push\nwhile lit\n  pass", ~HERE & ~LIT)
        self.check_error(Idle(()), "if here\n  do take\nwhile not here\n  pass", HERE)
        self.check([((), "fill")], "if not here\n  do fill\nwhile lit\n  pass", ~HERE & ~LIT)

    def test_the_first_state_in_which_it_is_idle(self):
        """Of those at the beginning and those behind a result."""
        self.check_error(Idle(("here",)), "if not here\n  do fill\nwhile here\n  pass", ~LIT & ~HERE | LIT & HERE)
        self.check_error(Idle(("lit",)), "if here\n  do take\nwhile lit\n  pass", LIT & HERE)

    def test_no_run_comes_to_where_it_would_be_idle(self):
        self.check_error(NotPossible((), "take"), "do take\nwhile not here\n  pass", ~HERE & ~LIT)

    def test_an_action_that_is_not_possible(self):
        self.check_error(NotPossible((), "take"), "do take")
        self.check_error(NotPossible(("lit",), "take"), "do take", LIT)
        self.check_error(NotPossible((), "off"), "do off", ALWAYS, ALWAYS)
        self.check([(("here",), "take"), (("lit", "here"), "take")], "do take", HERE)

    def test_an_action_that_the_world_does_not_have(self):
        self.check_error(NotPossible((), "burn"), "do burn")
        self.check_error(NotPossible(("here",), "burn"), "do fill\ndo burn", ~LIT)
        self.check([((), "fill")], "do fill\nif not here\n  do burn", ~LIT & ~HERE)

    def test_the_first_pair_by_places_and_then_by_states(self):
        program = "if here\n  do off\nelse\n  do take"
        self.check_error(NotPossible(("here",), "off"), program)
        self.check_error(NotPossible((), "take"), program, ~HERE)
        self.check_error(NotPossible(("lit",), "take"), program, LIT)
        self.check_error(NotPossible((), "take"), "if not lit\n  do take\nelse\n  do burn", ~HERE)
        self.check_error(NotPossible(("lit",), "burn"), "if lit\n  do burn\nelse\n  do take", ~HERE)

    def test_a_run_ends_where_an_action_is_not_possible(self):
        self.check_error(NotPossible((), "take"), "do take\nif not here\n  do burn", ~HERE & ~LIT)

    def test_idle_is_ahead(self):
        self.check_error(Idle(("lit", "here")), "if not here\n  do take\nwhile lit and here\n  pass")
        self.check_error(Idle(("lit", "here")), "while lit and here\n  pass\nif lit\n  do push\nelse\n  do fill\ndo push")

    def test_two_actions(self):
        self.check_error(TwoActions(("here",), "fill", "push"), "do fill\ndo push", HERE & ~LIT)
        self.check_error(TwoActions((), "push", "fill"), "do push\ndo fill", ~LIT)
        self.check_error(TwoActions(("lit",), "push", "fill"), "do push\ndo fill", LIT)

    def test_the_first_action_that_differs(self):
        self.check_error(TwoActions((), "push", "fill"), "do push\ndo push\ndo fill\ndo take", ~LIT & ~HERE)
        self.check_error(TwoActions(("lit",), "push", "off"), "do push\ndo push\nif lit\n  do off", ~LIT & ~HERE)

    def test_the_first_state_with_two_actions(self):
        program = "if lit\n  do push\n  do off\nelse\n  if here\n    do take\n    do push\n  else\n    do push"
        self.check_error(TwoActions(("here",), "take", "push"), program)
        self.check_error(TwoActions(("lit",), "push", "off"), program, LIT)

    def test_not_possible_is_ahead_of_two_actions(self):
        self.check_error(TwoActions((), "push", "fill"), "do push\ndo fill", ~LIT & ~HERE)
        self.check_error(NotPossible(("here",), "off"), "do push\ndo fill\ndo off", ~LIT & ~HERE)

    def test_arguments_by_names(self):
        plan = plan_of(program=Program.do("fill"), task=Task(yard(), ~LIT & ~HERE, LIT))
        self.assertEqual(plan.rows(), [((), "fill")])

    def test_good_plans_there_and_back(self):
        """The program of a good plan has the rows that its runs come to."""
        found = 0
        for seed in range(300):
            task = draw_task(seed)
            solution = solve(task)
            if solution.won:
                plan = plan_of(task, program_of(task, solution.plan))
                self.assertIsInstance(judge(task, plan), Measure)
                self.assertTrue(plan <= solution.plan)
                found += len(plan)
        self.assertGreater(found, 60)


class Limits(unittest.TestCase):
    """[2]: plans and programs at the limits are turned within seconds."""

    def timed(self, call, *args):
        before = time.monotonic()
        try:
            found = call(*args)
        except PlanError as error:
            found = error
        self.assertLess(time.monotonic() - before, 6)
        return found

    def test_drawn_worlds(self):
        kinds = set()
        for seed in range(40):
            chance = random.Random(seed)
            piles = seed % 4
            world = draw_world(chance, 4 - piles, piles, 3 - piles, 6, 4)
            task = Task(world, ALWAYS, just(world.seen(), chance.choice(world.states())))
            program = self.timed(program_of, task, draw_plan(seed, task))
            kinds.add(type(self.timed(plan_of, task, program)))
            self.timed(check, task, program)
            long = Program.skip()
            for at in range(12):
                long = long >> Program.choose(draw_task(seed).goal, Program.do(world.actions()[at % 6]), Program.skip())
            kinds.add(type(self.timed(plan_of, task, Program.loop(ALWAYS, long))))
        self.assertGreater(len(kinds), 1)


if __name__ == "__main__":
    unittest.main()
