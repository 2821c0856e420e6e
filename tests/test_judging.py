"""[18] running a plan, [23] bad runs, [24] judging a plan."""

import itertools
import random
import unittest

from noneorsome.actions import Action
from noneorsome.conditions import Condition
from noneorsome.errors import OtherWorld
from noneorsome.judging import BadRun, is_bad_run, judge
from noneorsome.measures import Measure, measure_fault
from noneorsome.outcomes import Outcome
from noneorsome.plans import Plan
from noneorsome.stocks import Stock
from noneorsome.tasks import Task
from noneorsome.worlds import World
from tests.drawing import draw_plan, draw_task
from tests.numbered import change_run, is_closed, points_by_hand
from tests.raising import RaisingCase

ALWAYS = Condition.always()
NEVER = Condition.never()
LIT = Condition.of("lit")
HERE = Condition.of("here")
AWAY = Condition.of("away")
BIG = 10 ** 30 - 1


def yard():
    world = World(["lit"], ["here", "away"], ["luck"])
    world["move"] = Action(HERE, [Outcome({"here": "take", "away": "add"}), Outcome({"here": "take", "luck": "take"})])
    world["back"] = Action(AWAY, [Outcome({"away": "take", "here": "add"})])
    world["push"] = Action(ALWAYS, [Outcome({"lit": True}), Outcome({"luck": "take"}), Outcome({"lit": False})])
    world["clear"] = Action(ALWAYS, [Outcome({"here": "empty", "luck": "add"})])
    return world


def plan_with(rows, world=None):
    plan = Plan(yard() if world is None else world)
    for state, action in rows:
        plan[state] = action
    return plan


# Carries to and fro for ever, or loses the last thing and has no action left.
TO_AND_FRO = [(("here",), "move"), (("away",), "back"), (("here", "away"), "back"), (("lit",), "push")]


class Attributes(unittest.TestCase):
    def test_what_is_passed(self):
        run = BadRun("ring", ("here",), Stock({"here": 1}), [("move", 0, {"here": None, "away": 1})], 0)
        self.assertEqual([run.reason, run.state, run.stock], ["ring", ("here",), Stock({"here": 1})])
        self.assertEqual([run.steps, run.back], [[("move", 0, {"here": None, "away": 1})], 0])
        run = BadRun(state=(), steps=(), stock=Stock(), reason="missing")
        self.assertEqual([run.reason, run.state, run.stock, run.steps, run.back], ["missing", (), Stock(), [], None])
        self.assertEqual(BadRun(back=3, state=(), steps=[], stock=Stock(), reason="ring").back, 3)

    def test_copies(self):
        stock, amounts = Stock({"here": 1}), {"here": None}
        steps = [("move", 0, amounts)]
        run = BadRun("missing", (), stock, steps)
        stock["here"] = 5
        amounts["here"] = 2
        steps.append(("back", 0, {}))
        self.assertEqual([run.stock, run.steps], [Stock({"here": 1}), [("move", 0, {"here": None})]])


class Missing(RaisingCase):
    def setUp(self):
        self.task = Task(yard(), HERE & ~LIT, LIT)
        self.plan = plan_with(TO_AND_FRO)

    def ask(self, **other):
        told = {
            "reason": "missing", "state": ("here",), "stock": Stock({"here": 5, "luck": 2}),
            "steps": [
                ("move", 0, {"here": 2, "away": 4}), ("back", 0, {"away": None, "here": 1}),
                ("move", 1, {"here": None, "luck": 1}),
            ],
        }
        return is_bad_run(self.task, self.plan, BadRun(**{**told, **other}))

    def last(self, *step):
        return self.ask(steps=[
            ("move", 0, {"here": 2, "away": 4}), ("back", 0, {"away": None, "here": 1}), step,
        ])

    def test_a_bad_run(self):
        self.assertIs(self.ask(), True)
        self.assertIs(is_bad_run(run=BadRun("missing", ("here",), Stock({"here": 1, "luck": 1}), [
            ("move", 1, {"here": None, "luck": None}),
        ]), plan=self.plan, task=self.task), True)

    def test_the_reason(self):
        for reason in ["ring", "", "Missing", "unfinished", "idle", "impossible"]:
            self.assertIs(self.ask(reason=reason), False)

    def test_back(self):
        for back in [0, 1, 2, 3, -1]:
            self.assertIs(self.ask(back=back), False)

    def test_the_state(self):
        for state in [(), ("away",), ("here", "away"), ("lit", "here"), ("here", "here"), ("q", "here"), ("luck",)]:
            self.assertIs(self.ask(state=state), False)
        self.task.set_start(ALWAYS)
        self.assertIs(self.ask(state=("away",)), False)
        self.assertIs(self.ask(), True)

    def test_the_order_of_a_state(self):
        stock = Stock({"here": 1, "away": 1, "luck": 1})
        steps = [("back", 0, {"away": None, "here": 1}), ("move", 1, {"here": None, "luck": None})]
        self.assertIs(self.ask(state=("here", "away"), stock=stock, steps=steps), True)
        self.assertIs(self.ask(state=("away", "here"), stock=stock, steps=steps), False)

    def test_the_start(self):
        self.task.set_start(HERE & AWAY)
        self.assertIs(self.ask(), False)
        self.task.set_start(HERE & ~AWAY & ~LIT)
        self.assertIs(self.ask(), True)

    def test_exactly_the_piles_of_the_state(self):
        for numbers in [{"luck": 2}, {"here": 5, "away": 1, "luck": 2}, {"away": 5, "luck": 2}, {}]:
            self.assertIs(self.ask(stock=Stock(numbers)), False)

    def test_numbers_of_names_that_are_no_counters(self):
        numbers = {"here": 5, "luck": 2, "lit": 7, "q": 1, "move": BIG}
        self.assertIs(self.ask(stock=Stock(numbers)), True)

    def test_the_numbers(self):
        for numbers, found in [
            ({"here": 3, "luck": 1}, True), ({"here": 2, "luck": 1}, False), ({"here": 1, "luck": 2}, False),
            ({"here": 3}, False), ({"here": BIG, "luck": BIG}, True),
        ]:
            self.assertIs(self.ask(stock=Stock(numbers)), found, numbers)

    def test_the_last_step(self):
        for step, found in [
            (("move", 1, {"here": None, "luck": 2}), True), (("move", 1, {"here": None, "luck": None}), True),
            (("move", 1, {"here": 4, "luck": 1}), False), (("move", 1, {"here": 3, "luck": 1}), False),
            (("move", 1, {"here": 5, "luck": 1}), False), (("move", 1, {"here": 0, "luck": 1}), False),
            (("move", 1, {"here": -1, "luck": 1}), False), (("move", 1, {"here": None, "luck": 3}), False),
            (("move", 1, {"here": None, "luck": 0}), False), (("move", 1, {"here": None, "luck": -1}), False),
            (("move", 1, {"here": None}), False), (("move", 1, {"luck": 1}), False), (("move", 1, {}), False),
            (("move", 1, {"here": None, "luck": 1, "away": 1}), False),
            (("move", 1, {"here": None, "luck": 1, "away": None}), False),
            (("move", 1, {"here": None, "luck": 1, "lit": None}), False),
            (("move", 1, {"here": None, "luck": 1, "q": 1}), False),
            (("move", 0, {"here": None, "away": 1}), False), (("move", 0, {"here": None, "luck": 1}), False),
            (("move", 2, {"here": None, "luck": 1}), False), (("move", -1, {"here": None, "luck": 1}), False),
            (("move", None, {"here": None, "luck": 1}), False),
            (("clear", 0, {"luck": 1}), False), (("push", 1, {"luck": 1}), False), (("none", 0, {}), False),
            (("back", 0, {"away": 1, "here": 1}), False), (("here", 0, {}), False),
        ]:
            self.assertIs(self.last(*step), found, step)

    def test_none_for_what_is_added(self):
        steps = [
            ("move", 0, {"here": 2, "away": None}), ("back", 0, {"away": None, "here": 1}),
            ("move", 1, {"here": None, "luck": 1}),
        ]
        self.assertIs(self.ask(steps=steps), False)

    def test_none_where_nothing_is_there(self):
        steps = [("move", 1, {"here": None, "luck": None})]
        self.assertIs(self.ask(stock=Stock({"here": 1}), steps=steps), False)
        self.assertIs(self.ask(stock=Stock({"here": 1, "luck": BIG}), steps=steps), True)

    def test_a_run_that_ends_where_there_is_a_row(self):
        self.plan[()] = "push"
        self.assertIs(self.ask(), False)
        self.plan.remove(())
        self.assertIs(self.ask(steps=[]), False)
        self.plan.remove(("here",))
        self.assertIs(self.ask(steps=[]), True)
        self.assertIs(self.ask(), False)

    def test_an_action_other_than_that_of_the_plan(self):
        self.plan[("here", "away")] = "push"
        self.assertIs(self.ask(), False)
        self.plan.remove(("here", "away"))
        self.assertIs(self.ask(), False)

    def test_a_run_that_begins_or_ends_at_the_goal(self):
        self.task.set_goal(LIT | (~HERE & ~AWAY))
        self.assertIs(self.ask(), False)
        self.task.set_goal(LIT | (HERE & ~AWAY))
        self.assertIs(self.ask(), False)
        self.task.set_goal(LIT & HERE)
        self.assertIs(self.ask(), True)

    def test_a_goal_on_the_way(self):
        self.task.set_goal(HERE & AWAY)
        self.assertIs(self.ask(), False)

    def test_other_worlds(self):
        world = yard()
        world["clear"] = Action(ALWAYS, [Outcome({"here": "empty"})])
        run = BadRun("missing", (), Stock(), [])
        for other in [World(), world]:
            self.assert_raises(OtherWorld(), is_bad_run, self.task, Plan(other), run)
            self.assert_raises(OtherWorld(), judge, self.task, Plan(other))

    def test_nothing_is_changed(self):
        run = BadRun("missing", ("here",), Stock({"here": 1, "luck": 1}), [("move", 1, {"here": None, "luck": None})])
        self.assertIs(is_bad_run(self.task, self.plan, run), True)
        self.assertEqual(run.steps, [("move", 1, {"here": None, "luck": None})])
        self.assertEqual([run.stock, self.plan], [Stock({"here": 1, "luck": 1}), plan_with(TO_AND_FRO)])


class Rings(unittest.TestCase):
    def setUp(self):
        self.task = Task(yard(), HERE & ~LIT, LIT)
        self.plan = plan_with(TO_AND_FRO)

    def ask(self, **other):
        told = {
            "reason": "ring", "state": ("here",), "stock": Stock({"here": 5, "luck": 1}), "back": 1,
            "steps": [
                ("move", 0, {"here": 2, "away": 4}), ("back", 0, {"away": 3, "here": 1}),
                ("back", 0, {"away": None, "here": 1}), ("move", 0, {"here": 1, "away": 4}),
            ],
        }
        return is_bad_run(self.task, self.plan, BadRun(**{**told, **other}))

    def test_a_bad_run(self):
        self.assertIs(self.ask(), True)
        self.assertIs(self.ask(stock=Stock({"here": BIG})), True)

    def test_back(self):
        for back, found in [(0, False), (1, True), (2, True), (3, False), (4, False), (5, False), (-1, False), (-3, False)]:
            self.assertIs(self.ask(back=back), found, back)
        self.assertIs(self.ask(back=None), False)

    def test_back_equal_to_the_number_of_steps(self):
        self.assertIs(self.ask(steps=[], back=0), False)
        self.assertIs(self.ask(steps=[("move", 0, {"here": 2, "away": 4})], back=1), False)

    def test_the_reason(self):
        for reason in ["missing", "", "rings", "idle"]:
            self.assertIs(self.ask(reason=reason), False)
            self.assertIs(self.ask(reason=reason, back=None), False)

    def test_a_counter_that_has_less(self):
        steps = [
            ("move", 0, {"here": 2, "away": 4}), ("back", 0, {"away": 3, "here": 1}),
            ("back", 0, {"away": None, "here": 1}), ("move", 0, {"here": 1, "away": 3}),
        ]
        self.assertIs(self.ask(steps=steps), False)
        self.assertIs(self.ask(steps=steps, back=2), True)
        steps[3] = ("move", 0, {"here": 3, "away": 9})
        self.assertIs(self.ask(steps=steps), False)
        steps[3] = ("move", 0, {"here": 2, "away": 9})
        self.assertIs(self.ask(steps=steps), True)

    def test_a_reserve_that_has_less(self):
        task = Task(yard(), ~HERE, LIT)
        plan = plan_with([((), "push"), (("here",), "push")])
        for amount in [1, 3, None]:
            run = BadRun("ring", (), Stock({"luck": 3}), [("push", 1, {"luck": amount})], 0)
            self.assertIs(is_bad_run(task, plan, run), False)
        run = BadRun("ring", (), Stock({"luck": 3}), [("push", 2, {})], 0)
        self.assertIs(is_bad_run(task, plan, run), True)
        run = BadRun("ring", (), Stock({"luck": 3}), [("push", None, {})], 0)
        self.assertIs(is_bad_run(task, plan, run), False)
        plan[()] = "clear"
        run = BadRun("ring", (), Stock(), [("clear", 0, {"luck": 1})], 0)
        self.assertIs(is_bad_run(task, plan, run), True)

    def test_another_state(self):
        self.assertIs(self.ask(steps=[
            ("move", 0, {"here": 2, "away": 4}), ("back", 0, {"away": 3, "here": 1}),
            ("back", 0, {"away": None, "here": 1}), ("move", 0, {"here": None, "away": 9}),
        ]), False)

    def test_other_facts(self):
        world = World(["lit"])
        world["push"] = Action(ALWAYS, [Outcome({"lit": True}), Outcome({"lit": False})])
        plan = plan_with([((), "push"), (("lit",), "push")], world)
        for index, found in [(0, False), (1, True)]:
            run = BadRun("ring", (), Stock(), [("push", 0, {}), ("push", index, {})], 0)
            self.assertIs(is_bad_run(Task(world, ~LIT, NEVER), plan, run), found)
            run = BadRun("ring", (), Stock(), [("push", 0, {}), ("push", 1 - index, {})], 1)
            self.assertIs(is_bad_run(Task(world, ~LIT, NEVER), plan, run), found)
            self.assertIs(is_bad_run(Task(world, ~LIT, LIT), plan, run), False)

    def test_a_goal_state_on_the_way(self):
        self.task.set_goal(LIT | (HERE & ~AWAY))
        self.assertIs(self.ask(), False)
        self.task.set_goal(HERE & AWAY)
        self.assertIs(self.ask(), False)
        self.task.set_goal(AWAY & ~HERE)
        self.assertIs(self.ask(), True)

    def test_an_action_other_than_that_of_the_plan(self):
        for state in [("here",), ("here", "away")]:
            self.plan[state] = "push"
            self.assertIs(self.ask(), False)
            self.plan = plan_with(TO_AND_FRO)

    def test_an_integer_where_none_must_be(self):
        steps = [
            ("move", 0, {"here": 2, "away": 4}), ("back", 0, {"away": 3, "here": 1}),
            ("back", 0, {"away": 1, "here": 1}), ("move", 0, {"here": 1, "away": 4}),
        ]
        self.assertIs(self.ask(steps=steps), False)

    def test_none_makes_another_state(self):
        steps = [
            ("move", 0, {"here": 2, "away": 4}), ("back", 0, {"away": None, "here": 1}),
            ("back", 0, {"away": None, "here": 1}), ("move", 0, {"here": 1, "away": 4}),
        ]
        self.assertIs(self.ask(steps=steps), False)


def shows(task, plan, run):
    """What [23] tells, by plain dicts: a run of a plan that ends without a row, or goes round."""
    points = points_by_hand(task.base(), run)
    if points is None or run.state not in task.start:
        return False
    for (state, _), (action, _, _) in zip(points, run.steps):
        if (state, action) not in plan.rows():
            return False
    if any(state in task.goal for state, _ in points):
        return False
    if run.reason == "missing":
        return run.back is None and points[-1][0] not in dict(plan.rows())
    return run.reason == "ring" and is_closed(points, run.back)


class Changed(unittest.TestCase):
    def test_runs_with_one_part_changed(self):
        chance = random.Random(23)
        found = {True: 0, False: 0}
        for seed in range(400):
            task = draw_task(seed)
            plan = draw_plan(seed, task)
            told = judge(task, plan)
            if isinstance(told, BadRun):
                self.assertTrue(shows(task, plan, told))
                for _ in range(12):
                    run = change_run(chance, task.base(), told, ["missing", "ring", "idle"])
                    expected = shows(task, plan, run)
                    self.assertIs(is_bad_run(task, plan, run), expected, vars(run))
                    found[expected] += 1
        self.assertGreater(min(found.values()), 300)


def all_edges(task, plan):
    """The edges of runs ahead of the goal, and whether a run comes to where there is no row."""
    world = task.base()
    reached = [state for state in task.starts() if state not in task.goal]
    edges = set()
    for state in reached:
        for index, gone, behind in world.results(state, plan[state]) if state in plan else []:
            if behind not in task.goal:
                edges.add((state, behind, *world.shifts(state, plan[state], index)))
                if behind not in reached:
                    reached.append(behind)
    return sorted(edges), any(state not in plan for state in reached)


def goes_round(edges):
    """Whether some edges, done again and again, let no number that falls be without additions: by all subsets."""
    for size in range(1, len(edges) + 1):
        for some in itertools.combinations(edges, size):
            taken = {name for edge in some for name in edge[2]}
            added = {name for edge in some for name in edge[3]}
            if taken <= added and is_one_round(some):
                return True
    return False


def is_one_round(edges):
    """Whether one can go along all of the edges and be back again."""
    nodes = {edge[0] for edge in edges} | {edge[1] for edge in edges}
    for node in nodes:
        reached = {node}
        for _ in nodes:
            reached |= {edge[1] for edge in edges if edge[0] in reached}
        if reached != nodes:
            return False
    return True


class Judging(unittest.TestCase):
    def judged(self, task, plan):
        """What `judge` returns, which has to be right."""
        found = judge(task, plan)
        if isinstance(found, BadRun):
            self.assertIs(is_bad_run(task, plan, found), True)
            return found.reason
        self.assertIsInstance(found, Measure)
        self.assertIsNone(measure_fault(task, plan, found))
        return "good"

    def test_many_plans(self):
        found = {"good": 0, "missing": 0, "ring": 0}
        for seed in range(600):
            task = draw_task(seed)
            found[self.judged(task, draw_plan(seed, task))] += 1
        self.assertGreater(min(found.values()), 30)

    def test_it_is_the_one_that_exists(self):
        """For few edges, all sets of edges tell whether a run can go on for ever."""
        found = {"good": 0, "missing": 0, "ring": 0}
        for seed in range(1500):
            task = draw_task(seed)
            plan = draw_plan(seed + 1, task)
            edges, missing = all_edges(task, plan)
            if len(edges) <= 9:
                reason = self.judged(task, plan)
                self.assertEqual(reason == "good", not missing and not goes_round(edges))
                found[reason] += 1
        self.assertGreater(min(found.values()), 50)

    def test_no_row_at_the_start(self):
        found = judge(Task(yard(), HERE & ~AWAY & ~LIT, LIT), Plan(yard()))
        self.assertEqual([found.reason, found.state, found.steps, found.back], ["missing", ("here",), [], None])

    def test_no_start_at_all(self):
        self.assertEqual(self.judged(Task(yard(), NEVER, NEVER), Plan(yard())), "good")

    def test_the_goal_in_every_start(self):
        self.assertEqual(self.judged(Task(yard(), LIT, LIT | HERE), Plan(yard())), "good")

    def test_rows_to_which_no_run_comes(self):
        task = Task(yard(), LIT & ~HERE & ~AWAY, ~LIT)
        plan = plan_with([(("lit",), "push"), (("lit", "here"), "push")])
        self.assertEqual(self.judged(task, plan), "ring")
        world = World(["lit"], ["here"])
        world["off"] = Action(ALWAYS, [Outcome({"lit": False})])
        world["wait"] = Action(ALWAYS, [Outcome()])
        plan = plan_with([(("lit",), "off"), (("lit", "here"), "wait"), ((), "wait")], world)
        self.assertEqual(self.judged(Task(world, LIT & ~HERE, ~LIT), plan), "good")
        self.assertEqual(self.judged(Task(world, LIT, ~LIT), plan), "ring")

    def test_numbers_that_cannot_fall_for_ever(self):
        self.assertEqual(self.judged(Task(yard(), HERE, ~HERE), plan_with([
            (("here",), "move"), (("here", "away"), "move"), (("lit", "here"), "move"), (("lit", "here", "away"), "move"),
        ])), "good")
        self.assertEqual(self.judged(Task(yard(), HERE & ~LIT, LIT), plan_with(TO_AND_FRO)), "missing")
        self.assertEqual(self.judged(Task(yard(), ALWAYS, LIT), plan_with([
            (state, "push") for state in yard().states()
        ])), "ring")

    def test_counters_one_within_the_other(self):
        world = World([], ["here", "away"], ["luck"])
        world["move"] = Action(HERE, [Outcome({"here": "take", "away": "add", "luck": "add"})])
        world["drop"] = Action(AWAY, [Outcome({"away": "take", "luck": "add"}), Outcome({"luck": "take"})])
        rows = [(("here",), "move"), (("here", "away"), "drop"), (("away",), "drop")]
        plan = plan_with(rows, world)
        task = Task(world, ALWAYS, ~HERE & ~AWAY)
        self.assertEqual(self.judged(task, plan), "good")
        self.assertEqual(len(judge(task, plan)[("here", "away")]), 7)
        world["drop"] = Action(AWAY, [Outcome({"away": "take", "here": "add"}), Outcome({"luck": "take"})])
        task = Task(world, ALWAYS, ~HERE & ~AWAY)
        self.assertEqual(self.judged(task, plan_with(rows, world)), "ring")

    def test_a_ring_from_which_piles_are_emptied(self):
        world = World(["lit"], ["here", "away"], ["luck"])
        world["fill"] = Action(~HERE, [
            Outcome({"here": "add", "away": "take", "luck": "take"}), Outcome({"here": "add", "away": "take"}),
        ])
        world["clear"] = Action(HERE, [
            Outcome({"here": "empty", "away": "add"}), Outcome({"here": "take", "away": "add", "luck": "add"}),
        ])
        plan = Plan(world)
        for state in world.states():
            if world.possible(state):
                plan[state] = world.possible(state)[0]
        self.assertEqual(self.judged(Task(world, HERE & AWAY, LIT), plan), "ring")

    def test_a_ring_in_which_all_that_was_gathered_is_emptied(self):
        """Before the ring there is more to empty than one addition brings, if all additions are alike."""
        wet = Condition.of("wet")
        world = World(["lit", "wet"], ["here"])
        world["one"] = Action(~LIT & ~wet, [Outcome({"here": "add", "lit": True})])
        world["two"] = Action(LIT & ~wet & HERE, [Outcome({"here": "add", "wet": True})])
        world["clear"] = Action(LIT & wet, [Outcome({"here": "empty", "lit": False})])
        world["fill"] = Action(~LIT & wet, [Outcome({"here": "add", "lit": True})])
        plan = Plan(world)
        for state in world.states():
            for action in world.possible(state):
                plan[state] = action
        for start in [~LIT & ~wet & ~HERE, ~LIT & ~wet & HERE, LIT & wet & HERE, wet & ~LIT & ~HERE]:
            self.assertEqual(self.judged(Task(world, start, NEVER), plan), "ring")

    def test_nothing_is_changed(self):
        task, plan = Task(yard(), HERE, LIT), plan_with(TO_AND_FRO)
        judge(task=task, plan=plan)
        self.assertEqual([task.base(), plan], [yard(), plan_with(TO_AND_FRO)])


if __name__ == "__main__":
    unittest.main()
