"""The worked examples of the document, in its order."""

import unittest

from noneorsome.actions import Action
from noneorsome.amounts import All, Some
from noneorsome.condition_texts import read_condition
from noneorsome.conditions import Condition
from noneorsome.errors import BadAmount, BadChange, BadText, NotPossible
from noneorsome.outcomes import Outcome
from noneorsome.runs import Run
from noneorsome.stocks import Stock
from noneorsome.worlds import World
from tests.raising import RaisingCase


def carrying():
    """The world of the task that the document reads from a text, made by hand."""
    world = World([], ["here"])
    world["carry"] = Action(Condition.of("here"), [Outcome({"here": "take"})])
    return world


class Conditions(RaisingCase):
    def test_the_text_of_a_condition(self):
        a = Condition.of("open")
        b = Condition.of("here")
        self.assertEqual(str(~(a | b) & b), "not (open or here) and here")

    def test_comparing_and_asking(self):
        a = Condition.of("open")
        b = Condition.of("here")
        answers = [a & b <= a, a <= a & b, a == ~~a, (a | b)(["here"]), ("here", "open") in a & b]
        self.assertEqual(answers, [True, False, True, True, True])

    def test_reading(self):
        self.assertEqual(str(read_condition("here and(not (open) or  here)")), "here and (not open or here)")

    def test_wrong_texts(self):
        self.assert_raises(BadText(9), read_condition, "here and or")
        self.assert_raises(BadText(9), read_condition, "not (here")


class Amounts(RaisingCase):
    def test_unknown_amounts(self):
        self.assertEqual([None + Some(), None - Some(), None - All()], ["add", "take", "empty"])


class Worlds(RaisingCase):
    def test_a_change_that_is_none(self):
        self.assert_raises(BadChange("here", "some"), Outcome, {"open": True, "here": "some"})

    def test_seen_names_counters_and_states(self):
        world = World(["open"], ["here"], ["luck"])
        found = [world.seen(), world.counters(), world.states()]
        self.assertEqual(found, [["open", "here"], ["here", "luck"], [(), ("here",), ("open",), ("open", "here")]])

    def test_possible_actions_results_and_shifts(self):
        world = carrying()
        found = [world.possible([]), world.results(["here"], "carry"), world.shifts(["here"], "carry", 0)]
        self.assertEqual(found, [[], [(0, (), ("here",)), (0, ("here",), ())], (("here",), ())])

    def test_an_action_that_is_not_possible(self):
        self.assert_raises(NotPossible((), "carry"), carrying().results, [], "carry")

    def test_joined_worlds(self):
        joined = World(["open"], ["here"]) | World([], ["there"], ["luck"])
        self.assertEqual(joined.states()[:3], [(), ("there",), ("here",)])


class Runs(RaisingCase):
    def test_two_steps(self):
        run = Run(carrying(), [], Stock({"here": 3}))
        first = run.step("carry", 0, {"here": 2})
        state = run.state_now()
        second = run.step("carry", 0, {"here": 1})
        self.assertEqual([first, state, second, run.state_now()], [(), ("here",), ("here",), ()])

    def test_an_amount_that_is_too_great(self):
        run = Run(carrying(), [], Stock({"here": 3}))
        self.assert_raises(BadAmount("here"), run.step, "carry", 0, {"here": 4})


if __name__ == "__main__":
    unittest.main()
