"""[15] steps by numbers."""

import itertools
import unittest

from noneorsome.actions import Action
from noneorsome.conditions import Condition
from noneorsome.errors import BadAmount, NoOutcome, NoState, NothingToUndo, NotPossible, UnknownAction
from noneorsome.outcomes import Outcome
from noneorsome.runs import Run
from noneorsome.stocks import Stock
from noneorsome.worlds import World
from tests.raising import RaisingCase

ALWAYS = Condition.always()
BIG = 10 ** 30 - 1


def yard():
    world = World(["lit", "shut"], ["here", "away"], ["luck"])
    world["carry"] = Action(Condition.of("here"), [
        Outcome({"here": "take", "away": "add", "lit": True}), Outcome({"here": "take", "luck": "take"}),
    ])
    world["clear"] = Action(ALWAYS, [Outcome({"here": "empty", "shut": True, "lit": False})])
    world["fill"] = Action(ALWAYS, [Outcome({"luck": "add", "here": "add"}), Outcome()])
    world["both"] = Action(ALWAYS, [Outcome({"away": "take", "here": "take"})])
    return world


def told(run):
    """All that a run tells of itself."""
    stock = run.stock_now()
    return run.state_now(), {name: stock[name] for name in stock.names()}, run.steps_done()


class Beginning(RaisingCase):
    def test_the_first_state(self):
        for facts, numbers, state in [
            ([], {}, ()), (["shut", "lit"], {}, ("lit", "shut")), (("shut",), {"away": 1}, ("shut", "away")),
            ([], {"here": 0, "away": BIG, "luck": 3}, ("away",)), ([], {"away": 2, "here": 1}, ("here", "away")),
        ]:
            run = Run(yard(), facts, Stock(numbers))
            self.assertEqual(run.state_now(), state)
            self.assertEqual(run.stock_now(), Stock(numbers))
            self.assertEqual(run.steps_done(), [])

    def test_nothing_at_all(self):
        run = Run(World(), (), Stock())
        self.assertEqual(told(run), ((), {}, []))
        self.assert_raises(UnknownAction("carry"), run.step, "carry", 0, {})

    def test_facts_that_make_no_state(self):
        for facts in [["here"], ["q"], ["lit", "lit"], ("luck",), ("lit", "shut", "lit"), ["carry"]]:
            self.assert_raises(NoState(facts), Run, yard(), facts, Stock({"here": 1}))

    def test_numbers_of_other_names_have_no_meaning(self):
        run = Run(world=yard(), facts=[], stock=Stock({"here": 1, "lit": 4, "q": 5}))
        self.assertEqual(told(run), (("here",), {"here": 1}, []))

    def test_what_is_passed_is_copied(self):
        world, facts, stock = yard(), ["lit"], Stock({"here": 2})
        run = Run(world, facts, stock)
        world.remove("carry")
        facts.clear()
        stock["here"] = 0
        self.assertEqual(run.state_now(), ("lit", "here"))
        self.assertEqual(run.step("carry", 0, {"here": 1, "away": 1}), ())
        self.assertNotIn("carry", world)

    def test_what_is_passed_is_left_as_it_is(self):
        world, facts, stock, amounts = yard(), ["lit"], Stock({"here": 2}), {"here": 2, "away": 1}
        run = Run(world, facts, stock)
        run.step("carry", 0, amounts)
        run.undo()
        self.assertEqual([world, facts, stock, amounts], [yard(), ["lit"], Stock({"here": 2}), {"here": 2, "away": 1}])


class Steps(RaisingCase):
    def setUp(self):
        self.run_on = Run(yard(), ["shut"], Stock({"here": 5, "away": 1, "luck": 2}))

    def test_taking_adding_and_setting(self):
        self.assertEqual(self.run_on.step("carry", 0, {"away": 7, "here": 4}), ())
        self.assertEqual(self.run_on.state_now(), ("lit", "shut", "here", "away"))
        self.assertEqual(self.run_on.stock_now(), Stock({"here": 1, "away": 8, "luck": 2}))
        self.assertEqual(self.run_on.step(action="carry", index=1, amounts={"here": 1, "luck": 2}), ("here",))
        self.assertEqual(self.run_on.state_now(), ("lit", "shut", "away"))
        self.assertEqual(self.run_on.stock_now(), Stock({"away": 8}))

    def test_emptying(self):
        self.assertEqual(self.run_on.step("clear", 0, {}), ())
        self.assertEqual(told(self.run_on), (("shut", "away"), {"away": 1, "luck": 2}, [("clear", 0, {})]))
        self.assertEqual(self.run_on.step("clear", 0, {}), ())
        self.assertEqual(self.run_on.stock_now(), Stock({"away": 1, "luck": 2}))

    def test_the_tuple_is_in_the_order_of_the_piles(self):
        self.assertEqual(self.run_on.step("both", 0, {"away": 1, "here": 5}), ("here", "away"))
        self.assertEqual(self.run_on.stock_now(), Stock({"luck": 2}))

    def test_a_reserve_that_is_used_up_is_not_in_the_tuple(self):
        self.assertEqual(self.run_on.step("carry", 1, {"here": 1, "luck": 2}), ())

    def test_great_numbers(self):
        run = Run(yard(), [], Stock({"here": BIG}))
        self.assertEqual(run.step("carry", 0, {"here": BIG - 1, "away": BIG}), ())
        self.assertEqual(run.stock_now(), Stock({"here": 1, "away": BIG}))
        self.assert_raises(BadAmount("here"), run.step, "carry", 0, {"here": 2, "away": BIG})

    def test_a_fact_that_is_set_to_what_it_is(self):
        run = Run(yard(), ["shut", "lit"], Stock())
        run.step("clear", 0, {})
        self.assertEqual(run.state_now(), ("shut",))
        run.step("fill", 1, {})
        self.assertEqual(run.state_now(), ("shut",))

    def test_steps_are_told_as_copies(self):
        amounts = {"here": 1, "away": 1}
        self.run_on.step("carry", 0, amounts)
        amounts["here"] = 9
        self.run_on.steps_done()[0][2].clear()
        self.run_on.steps_done().clear()
        self.assertEqual(self.run_on.steps_done(), [("carry", 0, {"here": 1, "away": 1})])
        self.run_on.stock_now()["here"] = 100
        self.assertEqual(self.run_on.stock_now()["here"], 4)

    def test_errors_in_their_order(self):
        before = told(self.run_on)
        self.assert_raises(UnknownAction("none"), self.run_on.step, "none", 9, {"q": 1})
        self.assert_raises(UnknownAction("here"), self.run_on.step, "here", 9, {"q": 1})
        self.assert_raises(NoOutcome(2), self.run_on.step, "carry", 2, {"q": 1})
        self.assert_raises(NoOutcome(-1), self.run_on.step, "carry", -1, {})
        self.assert_raises(BadAmount("here"), self.run_on.step, "carry", 0, {"a": 1, "away": 0})
        self.assert_raises(BadAmount("away"), self.run_on.step, "carry", 0, {"a": 1, "here": 1, "away": 0})
        self.assert_raises(BadAmount("a"), self.run_on.step, "carry", 0, {"luck": 1, "a": 1, "here": 1, "away": 1})
        self.assertEqual(told(self.run_on), before)

    def test_an_action_that_is_not_possible(self):
        run = Run(yard(), ["shut", "lit"], Stock({"away": 3, "luck": 3}))
        before = told(run)
        self.assert_raises(NotPossible(("lit", "shut", "away"), "carry"), run.step, "carry", 9, {"q": 1})
        self.assert_raises(NotPossible(("lit", "shut", "away"), "both"), run.step, "both", 0, {})
        self.assertEqual(told(run), before)

    def test_amounts_that_do_not_fit(self):
        before = told(self.run_on)
        for action, index, amounts, name in [
            ("carry", 0, {}, "here"), ("carry", 0, {"here": 1}, "away"), ("carry", 0, {"away": 1}, "here"),
            ("carry", 0, {"here": 0, "away": 1}, "here"), ("carry", 0, {"here": -1, "away": 1}, "here"),
            ("carry", 0, {"here": 6, "away": 1}, "here"), ("carry", 0, {"here": BIG, "away": 1}, "here"),
            ("carry", 0, {"here": 1, "away": 0}, "away"), ("carry", 0, {"here": 1, "away": -BIG}, "away"),
            ("carry", 1, {"here": 1, "luck": 3}, "luck"), ("carry", 1, {"here": 1}, "luck"),
            ("both", 0, {"here": 6, "away": 2}, "here"), ("both", 0, {"here": 5, "away": 2}, "away"),
            ("fill", 0, {"luck": 0, "here": 0}, "here"), ("fill", 0, {"luck": 0, "here": 1}, "luck"),
        ]:
            with self.subTest(f"{action} {amounts}"):
                self.assert_raises(BadAmount(name), self.run_on.step, action, index, amounts)
        self.assertEqual(told(self.run_on), before)

    def test_amounts_that_are_too_many(self):
        before = told(self.run_on)
        for action, index, amounts, name in [
            ("clear", 0, {"here": 5}, "here"), ("fill", 1, {"luck": 1, "away": 1}, "away"),
            ("carry", 0, {"here": 1, "away": 1, "luck": 1}, "luck"), ("fill", 1, {"z": 1, "lit": 1, "shut": 1}, "lit"),
            ("carry", 0, {"z": 1, "here": 1, "b": 0, "away": 1}, "b"), ("clear", 0, {"": 1}, ""),
        ]:
            with self.subTest(f"{action} {amounts}"):
                self.assert_raises(BadAmount(name), self.run_on.step, action, index, amounts)
        self.assertEqual(told(self.run_on), before)

    def test_a_reserve_with_nothing_in_it(self):
        run = Run(yard(), [], Stock({"here": 5}))
        self.assert_raises(BadAmount("luck"), run.step, "carry", 1, {"here": 1, "luck": 1})


class Undoing(RaisingCase):
    def test_steps_are_taken_back(self):
        run = Run(yard(), ["lit"], Stock({"here": 5, "luck": 1}))
        seen = [told(run)]
        for action, index, amounts in [
            ("carry", 0, {"here": 2, "away": 1}), ("clear", 0, {}), ("fill", 0, {"luck": BIG, "here": 1}),
            ("carry", 1, {"here": 1, "luck": 2}),
        ]:
            run.step(action, index, amounts)
            seen.append(told(run))
        for before in reversed(seen[:-1]):
            self.assertIs(run.undo(), None)
            self.assertEqual(told(run), before)
        self.assert_raises(NothingToUndo(), run.undo)
        self.assertEqual(told(run), seen[0])

    def test_nothing_to_undo(self):
        run = Run(World(), [], Stock())
        self.assert_raises(NothingToUndo(), run.undo)

    def test_undo_behind_a_refused_step(self):
        run = Run(yard(), [], Stock({"here": 5}))
        start = told(run)
        self.assert_raises(BadAmount("here"), run.step, "carry", 0, {"here": 6, "away": 1})
        self.assert_raises(NothingToUndo(), run.undo)
        run.step("carry", 0, {"here": 1, "away": 1})
        for action, index, amounts in [("none", 0, {}), ("carry", 5, {}), ("carry", 0, {})]:
            with self.assertRaises(ValueError):
                run.step(action, index, amounts)
        run.undo()
        self.assertEqual(told(run), start)

    def test_going_on_behind_an_undo(self):
        run = Run(yard(), [], Stock({"here": 5}))
        run.step("carry", 0, {"here": 5, "away": 1})
        run.undo()
        self.assertEqual(run.step("carry", 0, {"here": 2, "away": 3}), ())
        self.assertEqual(run.steps_done(), [("carry", 0, {"here": 2, "away": 3})])
        self.assertEqual(run.stock_now(), Stock({"here": 3, "away": 3}))


class StepsAndResults(unittest.TestCase):
    """What numbers do is just what [12] tells of them."""

    def test_every_result_and_no_other(self):
        world = World(["a"], ["p", "q"], ["r"])
        world["act"] = Action(ALWAYS, [
            Outcome({"p": first, "q": second, "a": fact, **extra})
            for first, second in itertools.product(["take", "add", "empty"], repeat=2)
            for fact, extra in [(True, {}), (False, {"r": "take"})]
        ])
        for state in world.states():
            if not world.possible(state):
                continue
            told_by_state = {result for result in world.results(state, "act")}
            numbers = {name: 3 for name in world.counters() if name in state or name == "r"}
            facts = [name for name in world.facts() if name in state]
            found = set()
            for index in range(len(world["act"])):
                outcome = world["act"].outcome(index)
                due = [name for name in outcome.names() if outcome[name] in ("take", "add")]
                for amounts in itertools.product([1, 2, 3], repeat=len(due)):
                    run = Run(world, facts, Stock(numbers))
                    gone = run.step("act", index, dict(zip(due, amounts)))
                    found.add((index, gone, run.state_now()))
            self.assertEqual(found, told_by_state)

    def test_counters_are_lessened_and_added_to_as_told(self):
        world = yard()
        for action, index, amounts in [
            ("carry", 0, {"here": 2, "away": 1}), ("carry", 1, {"here": 2, "luck": 1}), ("clear", 0, {}),
            ("fill", 0, {"luck": 1, "here": 4}), ("both", 0, {"here": 1, "away": 1}),
        ]:
            run = Run(world, [], Stock({"here": 3, "away": 2, "luck": 1}))
            lessened, added = world.shifts(run.state_now(), action, index)
            before = run.stock_now()
            run.step(action, index, amounts)
            behind = run.stock_now()
            counters = world.counters()
            self.assertEqual(lessened, tuple(name for name in counters if behind[name] < before[name]))
            self.assertEqual(added, tuple(name for name in counters if behind[name] > before[name]))


if __name__ == "__main__":
    unittest.main()
