"""[25] solving a task, [26] won states; [40] won states of joined worlds, [41] plans in turn; [2] worlds at the limits."""

import itertools
import random
import time
import unittest

from noneorsome.actions import Action
from noneorsome.conditions import Condition
from noneorsome.counterplays import counterplay_fault
from noneorsome.judging import BadRun, is_bad_run, judge
from noneorsome.matches import Match
from noneorsome.measure_rows import row_value
from noneorsome.measures import Measure, measure_fault
from noneorsome.outcomes import Outcome
from noneorsome.plans import Plan
from noneorsome.runs import Run
from noneorsome.solving import Lost, Solution, Won, solve, won_states
from noneorsome.stocks import Stock
from noneorsome.tasks import Task
from noneorsome.worlds import World
from tests.drawing import FACTS, PILES, RESERVES, draw_plan, draw_task, draw_world, just
from tests.losing import losing_play, losing_task

ALWAYS = Condition.always()
NEVER = Condition.never()
LIT = Condition.of("lit")
HERE = Condition.of("here")
AWAY = Condition.of("away")


def one_action(world, outcomes, need=ALWAYS, name="act"):
    world[name] = Action(need, [Outcome(changes) for changes in outcomes])
    return world


def any_of(world, states):
    """The condition that holds for these states."""
    condition = NEVER
    for state in states:
        condition = condition | just(world.seen(), state)
    return condition


class SolvingCase(unittest.TestCase):
    def solved(self, task, without=()):
        """Whether a task is won, by a solution that has to be right."""
        solution = solve(task, without=without)
        self.assertIsInstance(solution, Solution)
        if solution.won:
            self.assertIsInstance(solution, Won)
            self.assertIs(solution.won, True)
            self.assertEqual(solution.plan.base(), task.base())
            self.assertIsNone(measure_fault(task, solution.plan, solution.measure))
            self.assertFalse(any(action in without for _, action in solution.plan.rows()))
        else:
            self.assertIsInstance(solution, Lost)
            self.assertIs(solution.won, False)
            self.assertIsNone(counterplay_fault(task, solution.counterplay, without=without))
        return solution.won

    def won_alone(self, task, without=()):
        """The states that are won as the only start, by one solution for each."""
        world = task.base()
        return [
            state for state in world.states()
            if self.solved(Task(world, just(world.seen(), state), task.goal), without)
        ]

    def check(self, task, expected, without=()):
        """Check what is won, and that all of `won_states` is won together."""
        self.assertEqual(won_states(task, without=without), expected)
        self.assertEqual(self.won_alone(task, without), expected)
        self.assertIs(self.solved(task, without), all(state in expected for state in task.starts()))
        self.assertIs(self.solved(Task(task.base(), any_of(task.base(), expected), task.goal), without), True)


class Solutions(unittest.TestCase):
    def test_what_they_have(self):
        task = losing_task()
        plan, measure = Plan(task.base()), Measure()
        won = Won(measure=measure, plan=plan)
        self.assertEqual([won.won, won.plan, won.measure.rows()], [True, plan, []])
        lost = Lost(counterplay=losing_play())
        self.assertEqual([lost.won, lost.counterplay.rows()], [False, losing_play().rows()])
        self.assertTrue(issubclass(Won, Solution) and issubclass(Lost, Solution))

    def test_copies(self):
        plan, measure = Plan(losing_task().base()), Measure()
        won = Won(plan, measure)
        plan[("here",)] = "stir"
        measure[()] = (1,)
        self.assertEqual([len(won.plan), len(won.measure)], [0, 0])


class Worlds(SolvingCase):
    def test_an_action_that_changes_nothing(self):
        task = Task(one_action(World(["lit"]), [{}]), ALWAYS, LIT)
        self.check(task, [("lit",)])

    def test_no_actions(self):
        self.check(Task(World(["lit"], ["here"]), LIT, LIT), [("lit",), ("lit", "here")])
        self.check(Task(World(), ALWAYS, NEVER), [])
        self.check(Task(World(), ALWAYS, ALWAYS), [()])

    def test_no_start(self):
        self.check(Task(World(["lit"]), NEVER, NEVER), [])
        self.check(Task(one_action(World(["lit"]), [{}]), LIT & ~LIT, LIT), [("lit",)])

    def test_the_goal_in_every_start(self):
        solution = solve(Task(World(["lit"]), LIT, LIT))
        self.assertEqual([solution.won, solution.plan.rows()], [True, []])

    def test_one_step(self):
        task = Task(one_action(World(["lit"]), [{"lit": True}]), ALWAYS, LIT)
        self.check(task, [(), ("lit",)])
        self.check(Task(one_action(World(["lit"]), [{"lit": True}, {}]), ALWAYS, LIT), [("lit",)])
        self.check(Task(one_action(World(["lit"]), [{"lit": True}, {"lit": True}]), ALWAYS, LIT), [(), ("lit",)])

    def test_taking_from_a_pile(self):
        world = one_action(World([], ["here"]), [{"here": "take"}])
        self.check(Task(world, HERE, ~HERE), [(), ("here",)])
        self.check(Task(world, ALWAYS, HERE), [("here",)])
        self.check(Task(world, ALWAYS, NEVER), [])

    def test_adding_to_a_pile(self):
        world = one_action(World([], ["here"]), [{"here": "add"}])
        self.check(Task(world, ALWAYS, HERE), [(), ("here",)])
        self.check(Task(world, ALWAYS, ~HERE), [()])

    def test_taking_or_adding(self):
        world = one_action(World([], ["here"]), [{"here": "take"}, {"here": "add"}], HERE)
        self.check(Task(world, HERE, ~HERE), [()])

    def test_emptying_a_pile(self):
        world = one_action(World([], ["here", "away"]), [{"here": "empty", "away": "add"}])
        self.check(Task(world, ALWAYS, ~HERE & AWAY), [(), ("away",), ("here",), ("here", "away")])
        self.check(Task(world, ALWAYS, ~HERE & ~AWAY), [()])

    def test_emptying_what_is_not_there_does_not_lessen(self):
        world = one_action(World(["lit"], ["here"]), [{"here": "empty"}, {"lit": True}])
        self.check(Task(world, ALWAYS, LIT), [("lit",), ("lit", "here")])
        world = one_action(World(["lit"], ["here"]), [{"here": "empty"}, {"lit": True}], HERE)
        self.check(Task(world, ALWAYS, LIT | ~HERE), [(), ("here",), ("lit",), ("lit", "here")])

    def test_reserves_alone(self):
        world = one_action(World(["lit"], [], ["luck"]), [{"luck": "take"}, {"lit": True}])
        self.check(Task(world, ALWAYS, LIT), [(), ("lit",)])
        self.check(Task(one_action(world, [{"luck": "take"}, {"lit": True}, {}]), ALWAYS, LIT), [("lit",)])
        self.check(Task(one_action(world, [{"luck": "take"}, {"lit": True}, {"luck": "add"}]), ALWAYS, LIT), [("lit",)])

    def test_a_reserve_that_is_filled_by_another_action(self):
        world = one_action(World(["lit"], [], ["luck"]), [{"luck": "take"}, {"lit": True}], LIT | ~LIT, "push")
        world = one_action(world, [{"luck": "add"}], ALWAYS, "fill")
        self.check(Task(world, ALWAYS, LIT), [(), ("lit",)])
        self.check(Task(world, ALWAYS, LIT), [("lit",)], ["push"])

    def test_a_pile_that_gains_what_another_one_loses(self):
        world = one_action(World([], ["here", "away"]), [{"here": "take", "away": "add"}], HERE, "carry")
        world = one_action(world, [{"away": "take", "here": "add"}], AWAY, "back")
        self.check(Task(world, HERE | AWAY, ~HERE & ~AWAY), [()])
        self.check(Task(world, HERE | AWAY, ~HERE), [(), ("away",), ("here",), ("here", "away")])
        self.check(Task(world, HERE | AWAY, ~HERE), [(), ("away",)], ["carry"])

    def test_a_ring_with_two_counters(self):
        """`here` is used up before `away`: carrying once adds a lot, and dropping takes it all away."""
        world = one_action(World([], ["here", "away"]), [{"here": "take", "away": "add"}], HERE & ~AWAY, "carry")
        world = one_action(world, [{"away": "take"}], AWAY, "drop")
        self.check(Task(world, HERE, ~HERE & ~AWAY), world.states())
        solution = solve(Task(world, HERE, ~HERE & ~AWAY))
        self.assertEqual(dict(solution.plan.rows())[("here",)], "carry")
        world = one_action(world, [{"away": "take", "here": "add"}], AWAY, "drop")
        self.check(Task(world, HERE, ~HERE & ~AWAY), [()])

    def test_a_ring_of_states(self):
        world = one_action(World(["lit"], ["here"], ["luck"]), [{"lit": True, "here": "take"}], ~LIT & HERE, "on")
        world = one_action(world, [{"lit": False, "luck": "add"}, {"lit": False, "luck": "take"}], LIT, "off")
        self.check(Task(world, ALWAYS, ~HERE & ~LIT), [(), ("here",), ("lit",), ("lit", "here")])
        world = one_action(world, [{"lit": False, "here": "add"}, {"lit": False, "luck": "take"}], LIT, "off")
        self.check(Task(world, ALWAYS, ~HERE & ~LIT), [()])

    def test_one_counter_for_two_turns(self):
        """Either lamp is held back by one reserve, and each action adds to the other one: so both have to be watched."""
        world = one_action(World(["lit"], [], ["luck", "oil"]), [{"luck": "take", "oil": "add"}, {"lit": True}])
        self.check(Task(world, ALWAYS, LIT), [(), ("lit",)])
        world = one_action(world, [{"oil": "take", "luck": "add"}, {"lit": True}, {}], ALWAYS, "other")
        self.check(Task(world, ALWAYS, LIT), [(), ("lit",)])
        world = one_action(world, [
            {"luck": "take", "oil": "add"}, {"lit": True}, {"oil": "take", "luck": "add"},
        ])
        self.check(Task(world, ALWAYS, LIT), [("lit",)])

    def test_outcomes_with_the_same_changes(self):
        world = one_action(World([], ["here"]), [{"here": "take"}, {"here": "take"}, {"here": "take"}])
        self.check(Task(world, HERE, ~HERE), [(), ("here",)])

    def test_a_state_where_nothing_can_be_done(self):
        world = one_action(World(["lit", "shut"]), [{"lit": True}, {"shut": True}], ~LIT & Condition.of("shut"))
        world = one_action(world, [{"shut": True}], ~LIT, "close")
        self.check(Task(world, ALWAYS, LIT), [("lit",), ("lit", "shut")])
        world = one_action(world, [{"lit": True}], ~Condition.of("shut"), "light")
        self.check(Task(world, ALWAYS, LIT), [(), ("lit",), ("lit", "shut")])

    def test_one_plan_for_all_starts(self):
        world = one_action(World(["lit"], ["here"]), [{"lit": True}], HERE, "light")
        world = one_action(world, [{"here": "add"}], ~HERE, "fetch")
        solution = solve(Task(world, ALWAYS, LIT))
        self.assertEqual(solution.plan.rows(), [((), "fetch"), (("here",), "light")])


class Without(SolvingCase):
    def setUp(self):
        world = one_action(World(["lit"], ["here"]), [{"here": "take"}], HERE, "carry")
        world = one_action(world, [{"here": "empty"}], HERE, "clear")
        self.task = Task(one_action(world, [{}], ALWAYS, "wait"), HERE, ~HERE)

    def test_actions_that_are_left_out(self):
        for without, won in [
            ([], True), (["carry"], True), (("clear",), True), (["carry", "clear"], False), (["wait"], True),
            (["clear", "wait", "carry"], False), (self.task.base().actions(), False),
        ]:
            self.assertIs(self.solved(self.task, without), won)
            self.assertEqual(len(won_states(self.task, without=without)), 4 if won else 2)

    def test_the_actions_of_the_plan(self):
        for without, action in [(["carry"], "clear"), (["clear", "wait"], "carry")]:
            rows = solve(self.task, without=without).plan.rows()
            self.assertEqual(rows, [(("here",), action), (("lit", "here"), action)])

    def test_names_that_are_no_actions(self):
        for without in [["none"], ("here", "lit", ""), ["none", "carry", "carry"]]:
            self.check(self.task, self.task.base().states(), without)
        self.check(self.task, [(), ("lit",)], ["clear", "none", "carry", "here"])

    def test_it_is_passed_by_its_name(self):
        for call in [solve, won_states]:
            with self.assertRaises(TypeError):
                call(self.task, ["carry"])
            call(task=self.task, without=["carry"])

    def test_nothing_is_changed(self):
        without = ["carry", "clear"]
        before = self.task.base()
        solve(self.task, without=without)
        won_states(self.task, without=without)
        self.assertEqual([self.task.base(), without], [before, ["carry", "clear"]])
        self.assertEqual([self.task.start, self.task.goal], [HERE, ~HERE])


class Many(SolvingCase):
    def test_solutions_and_won_states(self):
        found = {True: 0, False: 0}
        for seed in range(200):
            task = draw_task(seed)
            chance = random.Random(seed)
            without = [name for name in task.base().actions() if chance.random() < 0.15]
            won = won_states(task, without=without)
            self.assertEqual(won, self.won_alone(task, without))
            together = self.solved(task, without)
            self.assertIs(together, all(state in won for state in task.starts()))
            found[together] += 1
        self.assertGreater(min(found.values()), 40)

    def test_the_start_has_no_effect_on_won_states(self):
        for seed in range(40):
            task = draw_task(seed)
            won = won_states(task)
            for start in [ALWAYS, NEVER, task.goal]:
                self.assertEqual(won_states(Task(task.base(), start, task.goal)), won)
            self.assertTrue(all(state in won for state in task.goals()))

    def test_no_plan_is_good_for_what_is_lost(self):
        """For few states with a choice, all plans are tried."""
        tried = 0
        for seed in range(250):
            task = draw_task(seed)
            world = task.base()
            choices = [[(state, action) for action in world.possible(state)] for state in world.states()]
            choices = [some for some in choices if some and some[0][0] not in task.goal]
            plans = list(itertools.islice(itertools.product(*choices), 65))
            if not solve(task).won and len(plans) < 65:
                for rows in plans:
                    plan = Plan(world)
                    for state, action in rows:
                        plan[state] = action
                    self.assertIsInstance(judge(task, plan), BadRun)
                    tried += 1
        self.assertGreater(tried, 500)

    def test_measures_by_numbers(self):
        """[21]: each row on the way, with numbers in it, is lower than the one before, and a goal is reached."""
        chance = random.Random(25)
        steps = 0
        for seed in range(200):
            task = draw_task(seed)
            task.set_start(any_of(task.base(), won_states(task)))
            solution = solve(task)
            self.assertIs(solution.won, True)
            for state in task.starts() * 3:
                steps += self.run_plan(chance, task, solution, state)
        self.assertGreater(steps, 500)

    def run_plan(self, chance, task, solution, state):
        world = task.base()
        numbers = {name: chance.randint(1, 9) for name in world.counters() if name in state or name in world.reserves()}
        run = Run(world, [name for name in world.facts() if name in state], Stock(numbers))
        values = []
        while run.state_now() not in task.goal:
            values.append(row_value(solution.measure[run.state_now()], run.stock_now()))
            self.do_any(chance, run, world, solution.plan[run.state_now()])
        self.assertEqual(values, sorted(values, reverse=True))
        self.assertEqual(len(values), len({tuple(value) for value in values}))
        return len(values)

    def do_any(self, chance, run, world, action):
        """Do one of the outcomes that can be done."""
        stock = run.stock_now()
        outcomes = [(index, world[action].outcome(index)) for index in range(len(world[action]))]
        index, outcome = chance.choice([
            (index, outcome) for index, outcome in outcomes
            if all(stock[name] > 0 for name in outcome.names() if outcome[name] == "take")
        ])
        amounts = {name: chance.randint(1, stock[name]) for name in outcome.names() if outcome[name] == "take"}
        amounts.update({name: chance.randint(1, 4) for name in outcome.names() if outcome[name] == "add"})
        run.step(action, index, amounts)

    def test_counterplays_by_numbers(self):
        """[28]: whatever actions are chosen, every reply can be done, and no goal is reached."""
        chance = random.Random(28)
        steps = 0
        for seed in range(150):
            task = draw_task(seed)
            solution = solve(task)
            if not solution.won:
                match = Match(task, solution.counterplay)
                for _ in range(60):
                    self.assertNotIn(match.state_now(), task.goal)
                    possible = task.base().possible(match.state_now())
                    if possible:
                        match.answer(chance.choice(possible))
                        steps += 1
        self.assertGreater(steps, 1000)


class Joined(SolvingCase):
    """[40] on the won states of a joined world."""

    def part(self, seed, facts, piles, reserves, names):
        """A small task, all of whose names are other ones."""
        chance = random.Random(seed)
        drawn = draw_world(chance, facts, piles, reserves, 2, 2)
        told = dict(zip([*drawn.seen(), *drawn.reserves(), *drawn.actions()], names))
        world = World(*[[told[name] for name in some] for some in [drawn.facts(), drawn.piles(), drawn.reserves()]])
        for name in drawn.actions():
            outcomes = [drawn[name].outcome(index) for index in range(len(drawn[name]))]
            states = [[told[one] for one in state] for state in drawn.states() if state in drawn[name].need]
            world[told[name]] = Action(any_of(world, states), [
                Outcome({told[one]: outcome[one] for one in outcome.names()}) for outcome in outcomes
            ])
        return Task(world, ALWAYS, just(world.seen(), chance.choice(world.states())))

    def test_both_goals_and_either_goal(self):
        found = set()
        for seed in range(60):
            one = self.part(seed, 1, 1, 0, ["a", "b", "c", "d"])
            other = self.part(seed + 1000, 1, 1, 1, ["e", "f", "g", "h", "i"])
            world = one.base() | other.base()
            both = won_states(Task(world, NEVER, one.goal & other.goal))
            either = won_states(Task(world, NEVER, one.goal | other.goal))
            first, second = won_states(one), won_states(other)
            for state in world.states():
                parts = (
                    one.base().state_of([name for name in state if name in one.base().seen()]) in first,
                    other.base().state_of([name for name in state if name in other.base().seen()]) in second,
                )
                self.assertIs(state in both, all(parts))
                self.assertIs(state in either, any(parts))
                found.add(parts)
        self.assertEqual(len(found), 4)


class InTurn(SolvingCase):
    """[41] plans in turn."""

    def test_two_good_plans(self):
        world = one_action(World(["lit"], ["here", "away"]), [{"here": "take", "away": "add"}], HERE, "carry")
        world = one_action(world, [{"away": "take", "lit": True}], AWAY, "burn")
        first, second = Plan(world), Plan(world)
        for state in world.states():
            if "here" in state:
                first[state] = "carry"
            elif "away" in state:
                second[state] = "burn"
        self.assertIsInstance(judge(Task(world, HERE, ~HERE & AWAY), first), Measure)
        self.assertIsInstance(judge(Task(world, ~HERE & AWAY, LIT & ~AWAY), second), Measure)
        whole = Task(world, HERE, LIT & ~AWAY)
        plan = second | first
        self.assertIsNone(measure_fault(whole, plan, judge(whole, plan)))
        for part in [first, second]:
            self.assertIs(is_bad_run(whole, part, judge(whole, part)), True)

    def test_many_plans(self):
        found = 0
        for seed in range(300):
            one = draw_task(seed)
            world = one.base()
            chance = random.Random(seed)
            middle = one.goal
            goal = just(world.seen(), chance.choice(world.states()))
            second = solve(Task(world, middle & ~goal, goal))
            first = solve(one)
            if not first.won or not second.won:
                continue
            start = any_of(world, [state for state, _ in second.plan.rows()])
            self.assertIsInstance(judge(Task(world, start, goal), second.plan), Measure)
            whole = Task(world, one.start, goal)
            plan = second.plan | first.plan
            self.assertIsNone(measure_fault(whole, plan, judge(whole, plan)))
            found += 1
        self.assertGreater(found, 20)


def limit_world(seed, piles, reserves):
    """A world at the limits of [2], with every change that there is."""
    return draw_world(random.Random(seed), 4 - piles, piles, reserves, 6, 4)


class Limits(SolvingCase):
    """[2]: worlds at the limits are solved within seconds."""

    def timed(self, call, *args):
        before = time.monotonic()
        found = call(*args)
        self.assertLess(time.monotonic() - before, 8)
        return found

    def check_limit(self, task):
        self.timed(self.solved, task)
        self.timed(won_states, task)
        plan = draw_plan(7, task)
        found = self.timed(judge, task, plan)
        if isinstance(found, BadRun):
            self.assertIs(self.timed(is_bad_run, task, plan, found), True)
        else:
            self.assertIsNone(measure_fault(task, plan, found))

    def test_drawn_worlds(self):
        for piles, reserves in [(0, 3), (1, 2), (2, 1), (3, 0)]:
            for seed in range(12):
                world = limit_world(seed, piles, reserves)
                for goal in [just(world.seen(), world.states()[-1]), just(world.seen(), ())]:
                    self.check_limit(Task(world, ALWAYS, goal))

    def test_no_plan_is_good(self):
        """Everything goes in every way, and the goal is nowhere."""
        for piles in [0, 1, 2, 3]:
            world = World(FACTS[:4 - piles], PILES[:piles], RESERVES[piles:])
            for at, name in enumerate(["a", "b", "c", "d", "e", "f"]):
                world[name] = Action(ALWAYS if piles == 0 else Condition.of("here"), [
                    Outcome({
                        **{fact: (at + place + turn) % 2 == 0 for place, fact in enumerate(world.facts())},
                        **{pile: "take" if (at + turn) % 3 else "add" for pile in world.piles()},
                        **({reserve: "add" for reserve in world.reserves()} if turn else {}),
                    })
                    for turn in range(4)
                ])
            self.check_limit(Task(world, ALWAYS, NEVER))

    def test_counters_one_within_the_other(self):
        """Three counters of which each one that falls lets all behind it rise: the longest rows there are."""
        up = Condition.of("up")
        world = World(["lit"], ["here", "away", "up"])
        for name, pile, need in [("a", "here", ~AWAY & ~up), ("b", "away", ~up), ("c", "up", ALWAYS)]:
            behind = world.piles()[world.piles().index(pile) + 1:]
            changes = {pile: "take", **{other: "add" for other in behind}}
            world[name] = Action(Condition.of(pile) & need, [
                Outcome({**changes, "lit": True}), Outcome({**changes, "lit": False}),
            ])
        goal = ~HERE & ~AWAY & ~up
        self.check(Task(world, ALWAYS, goal), world.states())
        solution = self.timed(solve, Task(world, ALWAYS, goal))
        self.assertEqual(len(solution.measure[("here", "away", "up")]), 7)
        world["d"] = Action(ALWAYS, [
            Outcome({"up": "empty", "lit": True}), Outcome({"lit": True}), Outcome({"lit": False}),
        ])
        world["e"] = Action(LIT, [Outcome({"here": "add", "lit": False})])
        world["f"] = Action(~LIT, [Outcome({"here": "take", "away": "take"}), Outcome({"lit": False, "up": "add"})])
        self.check_limit(Task(world, ALWAYS, goal))
        self.check_limit(Task(world, ALWAYS, NEVER))


if __name__ == "__main__":
    unittest.main()
