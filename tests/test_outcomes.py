"""[6] outcomes."""

import operator
import unittest

from noneorsome.amounts import All, Some
from noneorsome.errors import BadChange, BadName, ChangedTwice
from noneorsome.outcomes import Outcome
from tests.raising import RaisingCase

CHANGES = [True, False, "add", "take", "empty"]
NO_CHANGES = [1, 0, 2, "", "some", "Add", "add ", "yes", "none", ("add",), ["take"], 1.0]
NO_NAMES = ["", "and", "never", "Here", "abcdefghi", "a b", "here1"]


class Outcomes(RaisingCase):
    def test_nothing_is_changed(self):
        for outcome in [Outcome(), Outcome({}), Outcome(None), Outcome(changes=None)]:
            self.assertEqual([len(outcome), outcome.names(), outcome["here"], "here" in outcome], [0, [], None, False])

    def test_each_change(self):
        for change in CHANGES:
            with self.subTest(repr(change)):
                outcome = Outcome({"here": change})
                self.assertIs(outcome["here"], change)
                self.assertIs("here" in outcome, True)
                self.assertEqual([len(outcome), outcome.names()], [1, ["here"]])

    def test_names_are_ascending(self):
        outcome = Outcome({"x": True, "b": "add", "here": "take", "a": False})
        self.assertEqual(outcome.names(), ["a", "b", "here", "x"])
        outcome.names().clear()
        self.assertEqual(len(outcome), 4)

    def test_any_string_can_be_asked_for(self):
        outcome = Outcome({"here": "add"})
        for name in ["there", *NO_NAMES]:
            self.assertIs(outcome[name], None)
            self.assertIs(name in outcome, False)

    def test_bad_names_in_the_dict(self):
        for name in NO_NAMES:
            self.assert_raises(BadName(name), Outcome, {"x": True, name: "add"})
            self.assert_raises(BadName(name), Outcome, {name: "some"})

    def test_bad_changes_in_the_dict(self):
        for change in [*NO_CHANGES, None]:
            self.assert_raises(BadChange("here", change), Outcome, {"x": True, "here": change})

    def test_the_first_entry_that_does_not_fit_counts(self):
        self.assert_raises(BadChange("x", "some"), Outcome, {"a": "add", "x": "some", "And": "add"})
        self.assert_raises(BadName("And"), Outcome, {"a": "add", "And": "some", "x": "some"})
        self.assert_raises(BadChange("x", 1), Outcome, {"x": 1, "b": 2, "a": 3})

    def test_the_dict_is_copied(self):
        changes = {"here": "add"}
        outcome = Outcome(changes)
        changes["here"] = "take"
        changes["there"] = True
        self.assertEqual([outcome["here"], len(outcome)], ["add", 1])
        outcome["here"] = "empty"
        self.assertEqual(changes, {"here": "take", "there": True})

    def test_setting(self):
        outcome = Outcome()
        for change in CHANGES:
            outcome["here"] = change
            self.assertIs(outcome["here"], change)
            self.assertEqual(len(outcome), 1)

    def test_taking_a_change_away(self):
        outcome = Outcome({"here": "add", "x": True})
        outcome["here"] = None
        self.assertEqual(outcome, Outcome({"x": True}))
        outcome["here"] = None
        self.assertEqual([outcome.names(), "here" in outcome], [["x"], False])

    def test_setting_what_does_not_fit(self):
        outcome = Outcome({"here": "add"})
        for name in NO_NAMES:
            self.assert_raises(BadName(name), operator.setitem, outcome, name, "add")
            self.assert_raises(BadName(name), operator.setitem, outcome, name, "some")
            self.assert_raises(BadName(name), operator.setitem, outcome, name, None)
        for change in NO_CHANGES:
            self.assert_raises(BadChange("here", change), operator.setitem, outcome, "here", change)
            self.assert_raises(BadChange("there", change), operator.setitem, outcome, "there", change)
        self.assertEqual(outcome, Outcome({"here": "add"}))

    def test_unknown_amounts(self):
        outcome = Outcome()
        outcome["a"] += Some()
        outcome["b"] -= Some()
        outcome["c"] -= All()
        self.assertEqual(outcome, Outcome({"a": "add", "b": "take", "c": "empty"}))
        outcome["c"] = False
        for name, operand in [("a", "add"), ("b", "take"), ("c", False)]:
            with self.assertRaises(ChangedTwice) as caught:
                outcome[name] -= Some()
            self.assertIs(caught.exception.operand, operand)
        self.assertEqual(outcome, Outcome({"a": "add", "b": "take", "c": False}))

    def test_copies_are_independent(self):
        outcome = Outcome({"here": "add"})
        twin = outcome.copy()
        self.assertEqual(twin, outcome)
        twin["here"] = "take"
        self.assertEqual(outcome["here"], "add")
        outcome["x"] = True
        self.assertEqual(twin, Outcome({"here": "take"}))

    def test_equality(self):
        one = Outcome({"a": True, "b": "add"})
        self.assertIs(one == Outcome({"b": "add", "a": True}), True)
        self.assertIs(one != Outcome({"b": "add", "a": True}), False)
        for other in [
            Outcome({"a": True}), Outcome({"a": False, "b": "add"}), Outcome({"a": True, "b": "take"}), Outcome(),
            Outcome({"a": True, "b": "add", "c": "add"}), {"a": True, "b": "add"}, None, "a",
        ]:
            self.assertIs(one == other, False)
            self.assertIs(one != other, True)

    def test_an_outcome_is_not_iterated_over(self):
        with self.assertRaises(TypeError):
            list(Outcome({"a": True}))


if __name__ == "__main__":
    unittest.main()
