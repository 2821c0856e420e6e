"""[7] actions."""

import unittest

from noneorsome.actions import Action
from noneorsome.conditions import Condition
from noneorsome.errors import NoOutcome
from noneorsome.outcomes import Outcome
from tests.raising import RaisingCase

X = Condition.of("x")
Y = Condition.of("y")


class Actions(RaisingCase):
    def test_need_and_outcomes(self):
        action = Action(X, [Outcome({"here": "take"}), Outcome()])
        self.assertEqual(action.need, X)
        self.assertEqual(str(action.need), "x")
        self.assertEqual(len(action), 2)
        self.assertEqual([action.outcome(0), action.outcome(1)], [Outcome({"here": "take"}), Outcome()])

    def test_lists_tuples_and_names_of_arguments(self):
        self.assertEqual(Action(need=X, outcomes=(Outcome(),)), Action(X, [Outcome()]))
        self.assertEqual(Action(X, [Outcome()]).outcome(index=0), Outcome())

    def test_no_outcome(self):
        self.assert_raises(NoOutcome(0), Action, X, [])
        self.assert_raises(NoOutcome(0), Action, X, ())

    def test_other_indexes(self):
        action = Action(X, [Outcome(), Outcome()])
        for index in [-1, -2, 2, 3, 10 ** 30]:
            self.assert_raises(NoOutcome(index), action.outcome, index)

    def test_what_is_passed_is_copied(self):
        first = Outcome({"here": "take"})
        outcomes = [first]
        action = Action(X, outcomes)
        outcomes.append(Outcome())
        first["here"] = "add"
        self.assertEqual(action, Action(X, [Outcome({"here": "take"})]))

    def test_what_is_returned_is_a_copy(self):
        action = Action(X, [Outcome({"here": "take"})])
        action.outcome(0)["here"] = "add"
        self.assertEqual(action.outcome(0), Outcome({"here": "take"}))

    def test_equality(self):
        one = Action(X | Y, [Outcome({"a": True}), Outcome()])
        same = Action(~(~Y & ~X), (Outcome({"a": True}), Outcome()))
        self.assertIs(one == same, True)
        self.assertIs(one != same, False)
        for other in [
            Action(X, [Outcome({"a": True}), Outcome()]), Action(X | Y, [Outcome(), Outcome({"a": True})]),
            Action(X | Y, [Outcome({"a": True})]), Action(X | Y, [Outcome({"a": False}), Outcome()]),
            Action(X | Y, [Outcome({"a": True}), Outcome(), Outcome()]), X | Y, None, [Outcome()],
        ]:
            self.assertIs(one == other, False)
            self.assertIs(one != other, True)


if __name__ == "__main__":
    unittest.main()
