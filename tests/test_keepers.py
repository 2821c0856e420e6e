"""[45] the keeper, [46] edits taken back, [47] all or nothing; [2] long histories."""

import random
import time
import unittest

from noneorsome.actions import Action
from noneorsome.conditions import Condition
from noneorsome.errors import (
    BadChange, BadEdit, BadName, NoFreeOutcome, NothingToRedo, NothingToUndo, OtherWorld, PlanError, UnknownAction, UnknownName,
)
from noneorsome.keepers import Keeper, Trial
from noneorsome.measures import measure_fault
from noneorsome.outcomes import Outcome
from noneorsome.plans import Plan
from noneorsome.solving import Lost, Won, solve, won_states
from noneorsome.tasks import Task
from noneorsome.worlds import World
from tests.drawing import draw_condition, draw_outcome, draw_plan, draw_task
from tests.raising import RaisingCase

ALWAYS = Condition.always()
NEVER = Condition.never()
LIT = Condition.of("lit")
HERE = Condition.of("here")


def yard():
    world = World(["lit"], ["here"], ["luck"])
    world["carry"] = Action(HERE, [Outcome({"here": "take"})])
    world["stir"] = Action(HERE, [Outcome({"here": "take"}), Outcome({"here": "add"})])
    world["light"] = Action(ALWAYS, [Outcome({"lit": True})])
    return world


def yard_task():
    return Task(yard(), HERE, ~HERE)


CLEAR = Action(HERE, [Outcome({"here": "empty"})])


def plan_with(rows, world=None):
    plan = Plan(yard() if world is None else world)
    for state, action in rows:
        plan[state] = action
    return plan


CARRYING = [(("here",), "carry"), (("lit", "here"), "carry")]


def looks_of(keeper):
    """What a keeper shows of its task and its plan."""
    task, plan = keeper.task_now(), keeper.kept()
    world = task.base()
    return (
        world.facts(), world.piles(), world.reserves(), [(name, world[name]) for name in world.actions()], str(task.start),
        str(task.goal), None if plan is None else plan.rows(), None if plan is None else plan.base() == world,
    )


def future_of(keeper):
    """What can be redone, in its order."""
    twin = keeper.copy()
    found = []
    while True:
        try:
            twin.redo()
        except NothingToRedo:
            return found
        found.append((twin.history()[-1], looks_of(twin)))


def past_of(keeper):
    """What can be undone, in its order."""
    twin = keeper.copy()
    found = [(twin.history(), looks_of(twin))]
    while twin.history():
        twin.undo()
        found.append((twin.history(), looks_of(twin)))
    return found


class KeeperCase(RaisingCase):
    def assert_unchanged(self, error, keeper, call, *args):
        """Check that a call raises an error and changes nothing of a keeper."""
        before = [past_of(keeper), future_of(keeper)]
        self.assert_raises(error, call, *args)
        self.assertEqual([past_of(keeper), future_of(keeper)], before)


class Edits(KeeperCase):
    def test_what_it_begins_with(self):
        keeper = Keeper(yard_task())
        task = keeper.task_now()
        self.assertIsInstance(task, Task)
        self.assertEqual([task.base(), task.start, task.goal], [yard(), HERE, ~HERE])
        self.assertEqual([keeper.kept(), keeper.stands(), keeper.history()], [None, False, []])
        self.assertEqual(looks_of(Keeper(task=yard_task())), looks_of(keeper))

    def test_put(self):
        keeper = Keeper(yard_task())
        self.assertIsNone(keeper.put("clear", CLEAR))
        world = yard()
        world["clear"] = CLEAR
        self.assertEqual(keeper.task_now().base(), world)
        keeper.put(action=Action(LIT, [Outcome()]), name="stir")
        world["stir"] = Action(LIT, [Outcome()])
        self.assertEqual(keeper.task_now().base(), world)
        self.assertEqual(keeper.task_now().base().actions(), ["carry", "stir", "light", "clear"])
        self.assertEqual([keeper.task_now().start, keeper.task_now().goal], [HERE, ~HERE])

    def test_errors_of_put(self):
        keeper = Keeper(yard_task())
        keeper.keep(plan_with(CARRYING))
        keeper.forget()
        keeper.undo()
        for error, name, action in [
            (BadName("Clear"), "Clear", CLEAR), (UnknownName("q"), "clear", Action(Condition.of("q"), [Outcome()])),
            (UnknownName("luck"), "clear", Action(Condition.of("luck"), [Outcome()])),
            (UnknownName("q"), "carry", Action(ALWAYS, [Outcome({"q": True})])),
            (BadChange("here", True), "carry", Action(ALWAYS, [Outcome({"here": True})])),
            (NoFreeOutcome("carry"), "carry", Action(ALWAYS, [Outcome({"luck": "take"})])),
        ]:
            self.assert_unchanged(error, keeper, keeper.put, name, action)

    def test_drop(self):
        keeper = Keeper(yard_task())
        self.assertIsNone(keeper.drop("stir"))
        self.assertEqual(keeper.task_now().base().actions(), ["carry", "light"])
        keeper.drop(name="carry")
        self.assertEqual(keeper.task_now().base().actions(), ["light"])

    def test_errors_of_drop(self):
        keeper = Keeper(yard_task())
        keeper.drop("stir")
        keeper.drop("light")
        keeper.undo()
        for name in ["stir", "burn", "", "here", "Carry"]:
            self.assert_unchanged(UnknownAction(name), keeper, keeper.drop, name)

    def test_aim(self):
        keeper = Keeper(yard_task())
        self.assertIsNone(keeper.aim(LIT, LIT & HERE))
        self.assertEqual([keeper.task_now().start, keeper.task_now().goal], [LIT, LIT & HERE])
        keeper.aim(goal=ALWAYS, start=NEVER)
        self.assertEqual([keeper.task_now().start, keeper.task_now().goal], [NEVER, ALWAYS])
        self.assertEqual(keeper.task_now().base(), yard())

    def test_errors_of_aim(self):
        keeper = Keeper(yard_task())
        keeper.aim(LIT, HERE)
        keeper.undo()
        strange = Condition.of("q") & Condition.of("luck")
        for start, goal, name in [
            (strange, LIT, "luck"), (LIT, strange, "luck"), (Condition.of("q"), strange, "q"), (Condition.of("carry"), LIT, "carry"),
        ]:
            self.assert_unchanged(UnknownName(name), keeper, keeper.aim, start, goal)

    def test_keep_and_forget(self):
        keeper = Keeper(yard_task())
        self.assertIsNone(keeper.keep(plan_with(CARRYING)))
        self.assertEqual(keeper.kept(), plan_with(CARRYING))
        keeper.keep(plan=plan_with(CARRYING[:1]))
        self.assertEqual(keeper.kept(), plan_with(CARRYING[:1]))
        self.assertIsNone(keeper.forget())
        self.assertIsNone(keeper.kept())
        keeper.keep(Plan(yard()))
        self.assertEqual(keeper.kept(), Plan(yard()))

    def test_errors_of_keep(self):
        keeper = Keeper(yard_task())
        other = yard()
        other.remove("stir")
        keeper.keep(plan_with(CARRYING))
        keeper.forget()
        keeper.undo()
        for world in [World(), other]:
            self.assert_unchanged(OtherWorld(), keeper, keeper.keep, Plan(world))
        keeper.drop("stir")
        self.assert_unchanged(OtherWorld(), keeper, keeper.keep, Plan(yard()))
        keeper.keep(Plan(other))
        self.assertEqual(keeper.kept(), Plan(other))

    def test_aim_leaves_the_kept_plan(self):
        keeper = Keeper(yard_task())
        keeper.keep(plan_with(CARRYING))
        keeper.aim(ALWAYS, LIT)
        self.assertEqual(keeper.kept(), plan_with(CARRYING))

    def test_the_kept_plan_behind_drop(self):
        keeper = Keeper(yard_task())
        keeper.keep(plan_with([((), "light"), (("here",), "carry"), (("lit",), "light"), (("lit", "here"), "stir")]))
        keeper.drop("carry")
        world = yard()
        world.remove("carry")
        self.assertEqual(keeper.kept(), plan_with([((), "light"), (("lit",), "light"), (("lit", "here"), "stir")], world))
        keeper.drop("light")
        world.remove("light")
        self.assertEqual(keeper.kept(), plan_with([(("lit", "here"), "stir")], world))
        keeper.drop("stir")
        self.assertEqual(len(keeper.kept()), 0)
        self.assertEqual(keeper.kept().base(), keeper.task_now().base())

    def test_the_kept_plan_behind_put(self):
        """Rows whose action is not possible any more are gone, and come back with no other edit."""
        keeper = Keeper(yard_task())
        rows = [((), "light"), (("here",), "carry"), (("lit",), "light"), (("lit", "here"), "carry")]
        keeper.keep(plan_with(rows))
        keeper.put("clear", CLEAR)
        world = yard()
        world["clear"] = CLEAR
        self.assertEqual(keeper.kept(), plan_with(rows, world))
        lamp = Action(~HERE & ~LIT, [Outcome({"lit": True})])
        keeper.put("light", lamp)
        world["light"] = lamp
        self.assertEqual(keeper.kept(), plan_with([rows[0], rows[1], rows[3]], world))
        taking = Action(LIT, [Outcome({"here": "take"}), Outcome()])
        keeper.put("carry", taking)
        world["carry"] = taking
        self.assertEqual(keeper.kept(), plan_with([rows[0], rows[3]], world))
        keeper.put("carry", yard()["carry"])
        keeper.put("light", yard()["light"])
        self.assertEqual(keeper.kept().rows(), [rows[0], rows[3]])

    def test_no_plan_behind_put_and_drop(self):
        keeper = Keeper(yard_task())
        keeper.put("clear", CLEAR)
        keeper.drop("carry")
        self.assertIsNone(keeper.kept())

    def test_stands(self):
        keeper = Keeper(yard_task())
        self.assertIs(keeper.stands(), False)
        keeper.keep(plan_with(CARRYING))
        self.assertIs(keeper.stands(), True)
        keeper.aim(ALWAYS, LIT)
        self.assertIs(keeper.stands(), False)
        keeper.aim(LIT, LIT)
        self.assertIs(keeper.stands(), True)
        keeper.aim(HERE, ~HERE)
        keeper.drop("carry")
        self.assertIs(keeper.stands(), False)
        keeper.undo()
        self.assertIs(keeper.stands(), True)
        keeper.keep(plan_with(CARRYING[:1]))
        self.assertIs(keeper.stands(), False)
        keeper.aim(NEVER, NEVER)
        self.assertIs(keeper.stands(), True)
        keeper.forget()
        self.assertIs(keeper.stands(), False)

    def test_solution_and_won_now(self):
        keeper = Keeper(yard_task())
        found = keeper.solution()
        self.assertIsInstance(found, Won)
        self.assertIsNone(measure_fault(keeper.task_now(), found.plan, found.measure))
        self.assertEqual(keeper.won_now(), yard().states())
        keeper.drop("carry")
        self.assertIsInstance(keeper.solution(), Lost)
        self.assertEqual(keeper.won_now(), [(), ("lit",)])
        keeper.aim(HERE, LIT)
        self.assertIs(keeper.solution().won, True)
        self.assertEqual(keeper.won_now(), yard().states())

    def test_copies_of_what_is_passed(self):
        task, plan, clear = yard_task(), plan_with(CARRYING), Action(HERE, [Outcome({"here": "empty"})])
        keeper = Keeper(task)
        task.set_goal(LIT)
        keeper.keep(plan)
        plan.remove(("here",))
        keeper.put("clear", clear)
        clear.need = LIT
        self.assertEqual(keeper.task_now().goal, ~HERE)
        self.assertEqual(len(keeper.kept()), 2)
        self.assertEqual(keeper.task_now().base()["clear"], CLEAR)

    def test_copies_of_what_is_returned(self):
        keeper = Keeper(yard_task())
        keeper.keep(plan_with(CARRYING))
        keeper.task_now().set_goal(LIT)
        keeper.task_now().base().remove("carry")
        keeper.kept().remove(("here",))
        keeper.history().clear()
        keeper.won_now().clear()
        self.assertEqual(keeper.task_now().goal, ~HERE)
        self.assertEqual(keeper.task_now().base(), yard())
        self.assertEqual([keeper.kept(), keeper.history(), len(keeper.won_now())], [plan_with(CARRYING), ["keep"], 4])


def edited():
    """A keeper with one edit of each kind."""
    keeper = Keeper(yard_task())
    keeper.put("clear", CLEAR)
    keeper.drop("stir")
    keeper.keep(Plan(keeper.task_now().base()))
    keeper.aim(ALWAYS, LIT)
    keeper.forget()
    return keeper


class TakenBack(KeeperCase):
    def test_history(self):
        self.assertEqual(edited().history(), ["put", "drop", "keep", "aim", "forget"])

    def test_edits_that_change_nothing_count(self):
        keeper = Keeper(yard_task())
        keeper.forget()
        keeper.aim(HERE, ~HERE)
        keeper.put("carry", yard()["carry"])
        keeper.keep(Plan(yard()))
        keeper.keep(Plan(yard()))
        self.assertEqual(keeper.history(), ["forget", "aim", "put", "keep", "keep"])

    def test_edits_that_raise_errors_do_not(self):
        keeper = Keeper(yard_task())
        for call, args in [
            (keeper.drop, ("burn",)), (keeper.put, ("Clear", CLEAR)), (keeper.aim, (Condition.of("q"), LIT)),
            (keeper.keep, (Plan(World()),)), (keeper.undo, ()), (keeper.redo, ()),
        ]:
            with self.assertRaises(PlanError):
                call(*args)
        self.assertEqual(keeper.history(), [])

    def test_undo_and_redo_of_each_edit(self):
        keeper = edited()
        stands = [looks for _, looks in past_of(keeper)]
        names = keeper.history()
        for at in range(5):
            self.assertEqual(looks_of(keeper), stands[at])
            self.assertIsNone(keeper.undo())
            self.assertEqual(keeper.history(), names[:4 - at])
        self.assertEqual(looks_of(keeper), looks_of(Keeper(yard_task())))
        self.assert_raises(NothingToUndo(), keeper.undo)
        for at in range(5):
            self.assertIsNone(keeper.redo())
            self.assertEqual(keeper.history(), names[:at + 1])
            self.assertEqual(looks_of(keeper), stands[4 - at])
        self.assert_raises(NothingToRedo(), keeper.redo)

    def test_nothing_to_take_back(self):
        keeper = Keeper(yard_task())
        self.assert_raises(NothingToUndo(), keeper.undo)
        self.assert_raises(NothingToRedo(), keeper.redo)
        keeper.forget()
        self.assert_raises(NothingToRedo(), keeper.redo)
        keeper.undo()
        self.assert_raises(NothingToUndo(), keeper.undo)
        keeper.redo()
        self.assert_raises(NothingToRedo(), keeper.redo)

    def test_the_kept_plan_is_taken_back(self):
        keeper = Keeper(yard_task())
        keeper.keep(plan_with(CARRYING))
        keeper.drop("carry")
        self.assertEqual(len(keeper.kept()), 0)
        keeper.undo()
        self.assertEqual(keeper.kept(), plan_with(CARRYING))
        keeper.redo()
        self.assertEqual(len(keeper.kept()), 0)
        keeper.undo()
        keeper.undo()
        self.assertIsNone(keeper.kept())

    def test_an_edit_makes_what_was_taken_back_unavailable(self):
        for name, args in [("put", ("burn", CLEAR)), ("drop", ("carry",)), ("aim", (LIT, LIT)), ("forget", ())]:
            keeper = edited()
            keeper.undo()
            keeper.undo()
            self.assertEqual(len(future_of(keeper)), 2)
            getattr(keeper, name)(*args)
            self.assert_raises(NothingToRedo(), keeper.redo)
            self.assertEqual(keeper.history(), ["put", "drop", "keep", name])
            keeper.undo()
            self.assertEqual([edit for edit, _ in future_of(keeper)], [name])
        keeper = edited()
        keeper.undo()
        keeper.keep(keeper.kept())
        self.assert_raises(NothingToRedo(), keeper.redo)

    def test_an_edit_that_is_refused_does_not(self):
        keeper = edited()
        keeper.undo()
        keeper.undo()
        for error, call, args in [
            (UnknownAction("burn"), keeper.drop, ("burn",)), (BadName("A"), keeper.put, ("A", CLEAR)),
            (UnknownName("q"), keeper.aim, (LIT, Condition.of("q"))), (OtherWorld(), keeper.keep, (Plan(yard()),)),
        ]:
            self.assert_unchanged(error, keeper, call, *args)
        self.assertEqual([edit for edit, _ in future_of(keeper)], ["aim", "forget"])
        keeper.redo()
        keeper.redo()
        self.assertEqual(keeper.history(), ["put", "drop", "keep", "aim", "forget"])

    def test_a_copy(self):
        keeper = edited()
        keeper.undo()
        keeper.undo()
        twin = keeper.copy()
        self.assertIsInstance(twin, Keeper)
        self.assertIsNot(twin, keeper)
        self.assertEqual([past_of(twin), future_of(twin)], [past_of(keeper), future_of(keeper)])
        before = [past_of(keeper), future_of(keeper)]
        twin.redo()
        twin.drop("clear")
        twin.aim(LIT, LIT)
        self.assertEqual([past_of(keeper), future_of(keeper)], before)
        told = [past_of(twin), future_of(twin)]
        for _ in range(3):
            keeper.undo()
        keeper.put("burn", CLEAR)
        self.assertEqual([past_of(twin), future_of(twin)], told)

    def test_equal_keepers(self):
        keeper = edited()
        for other in [edited(), edited().copy()]:
            self.assertTrue(keeper == other)
            self.assertFalse(keeper != other)
        other.undo()
        self.assertFalse(keeper == other)
        self.assertTrue(keeper != other)
        other.redo()
        self.assertTrue(keeper == other)

    def test_histories_have_no_effect(self):
        keeper = Keeper(yard_task())
        other = Keeper(yard_task())
        other.drop("light")
        other.put("light", yard()["light"])
        other.keep(Plan(yard()))
        other.forget()
        other.aim(~~HERE, ~HERE | NEVER)
        self.assertTrue(keeper == other)
        self.assertEqual([keeper.history(), len(other.history())], [[], 5])
        other.undo()
        self.assertTrue(keeper == other)

    def test_unequal_keepers(self):
        for name, args in [
            ("put", ("clear", CLEAR)), ("drop", ("stir",)), ("aim", (HERE, LIT)), ("aim", (LIT, ~HERE)), ("keep", (Plan(yard()),)),
            ("put", ("stir", CLEAR)),
        ]:
            keeper = Keeper(yard_task())
            getattr(keeper, name)(*args)
            self.assertFalse(keeper == Keeper(yard_task()), name)
            self.assertTrue(Keeper(yard_task()) != keeper)
        one, other = Keeper(yard_task()), Keeper(yard_task())
        one.keep(plan_with(CARRYING))
        other.keep(plan_with(CARRYING[:1]))
        self.assertFalse(one == other)
        other.keep(plan_with(CARRYING))
        self.assertTrue(one == other)
        one.drop("carry")
        one.put("carry", yard()["carry"])
        one.keep(Plan(one.task_now().base()))
        other.keep(Plan(yard()))
        self.assertFalse(one == other, "the order of the actions counts")

    def test_other_kinds_of_objects(self):
        for other in [None, 1, "keeper", yard_task(), yard(), Plan(yard())]:
            self.assertFalse(Keeper(yard_task()) == other)
            self.assertTrue(Keeper(yard_task()) != other)


class Attempts(KeeperCase):
    def test_edits_of_all_kinds(self):
        world = yard()
        world["clear"] = CLEAR
        for kind in [list, tuple]:
            keeper = Keeper(yard_task())
            edits = [("put", "clear", CLEAR), ("keep", Plan(world)), ("aim", LIT, HERE), ("drop", "stir"), ("forget",)]
            self.assertIsNone(keeper.attempt(kind(edits)))
            self.assertEqual(keeper.history(), ["put", "keep", "aim", "drop", "forget"])
            self.assertEqual(keeper.task_now().base().actions(), ["carry", "light", "clear"])
            self.assertEqual([keeper.task_now().start, keeper.task_now().goal, keeper.kept()], [LIT, HERE, None])

    def test_no_edits(self):
        keeper = edited()
        keeper.undo()
        before = [past_of(keeper), future_of(keeper)]
        keeper.attempt([])
        keeper.attempt(edits=())
        self.assertEqual([past_of(keeper), future_of(keeper)], before)

    def test_undo_and_redo(self):
        keeper = edited()
        keeper.attempt([("undo",), ("undo",), ("redo",)])
        self.assertEqual(keeper.history(), ["put", "drop", "keep", "aim"])
        keeper.redo()
        self.assertEqual(looks_of(keeper), looks_of(edited()))
        keeper.attempt([("undo",), ("drop", "clear"), ("undo",)])
        self.assertEqual(keeper.history(), ["put", "drop", "keep", "aim"])
        self.assertEqual([edit for edit, _ in future_of(keeper)], ["drop"])

    def check_bad(self, keeper, edits, index, cause):
        """Check that an attempt fails at a place, from an error or none, and changes nothing."""
        before = [past_of(keeper), future_of(keeper)]
        for kind in [list, tuple]:
            with self.assertRaises(BadEdit) as caught:
                keeper.attempt(kind(edits))
            self.assertEqual(vars(caught.exception), {"index": index})
            self.assertIs(type(caught.exception.__cause__), type(cause))
            if cause is not None:
                self.assertEqual(vars(caught.exception.__cause__), vars(cause))
            self.assertEqual([past_of(keeper), future_of(keeper)], before)

    def test_an_edit_that_is_refused(self):
        keeper = edited()
        keeper.undo()
        keeper.undo()
        good = [("drop", "clear"), ("forget",), ("aim", LIT, LIT)]
        for bad, cause in [
            (("drop", "burn"), UnknownAction("burn")), (("put", "A", CLEAR), BadName("A")), (("keep", Plan(yard())), OtherWorld()),
            (("aim", Condition.of("q"), LIT), UnknownName("q")), (("redo",), NothingToRedo()),
        ]:
            for at in range(4):
                if bad == ("redo",) and at == 0:
                    continue
                self.check_bad(keeper, [*good[:at], bad, *good[at:]], at, cause)
        self.check_bad(keeper, [("undo",)] * 4, 3, NothingToUndo())
        self.check_bad(keeper, [("redo",)] * 3, 2, NothingToRedo())
        self.check_bad(Keeper(yard_task()), [("undo",)], 0, NothingToUndo())

    def test_an_edit_that_is_possible_only_without_the_ones_ahead(self):
        self.check_bad(Keeper(yard_task()), [("drop", "stir"), ("drop", "stir")], 1, UnknownAction("stir"))
        self.check_bad(Keeper(yard_task()), [("drop", "stir"), ("keep", Plan(yard()))], 1, OtherWorld())
        keeper = Keeper(yard_task())
        keeper.attempt([("keep", Plan(yard())), ("drop", "stir")])
        self.assertEqual(keeper.history(), ["keep", "drop"])

    def test_other_names(self):
        for name in [
            "copy", "history", "task_now", "kept", "stands", "solution", "won_now", "attempt", "trial", "Put", "", "remove", "_story",
            "__init__", "put ", "undo()",
        ]:
            for args in [(), ("carry",), ([],), ("a", CLEAR)]:
                self.check_bad(edited(), [("forget",), (name, *args), ("drop", "burn")], 1, None)

    def test_other_numbers_of_arguments(self):
        for edit in [
            ("put",), ("put", "a"), ("put", "a", CLEAR, 1), ("drop",), ("drop", "carry", "clear"), ("aim",), ("aim", LIT),
            ("aim", LIT, LIT, LIT), ("keep",), ("keep", Plan(yard()), None), ("forget", None), ("undo", 1), ("redo", "redo"), (),
        ]:
            self.check_bad(edited(), [edit], 0, None)
            self.check_bad(edited(), [("undo",), ("drop", "clear"), edit], 2, None)

    def test_the_first_one_counts(self):
        self.check_bad(edited(), [("drop", "burn"), ("burn",)], 0, UnknownAction("burn"))
        self.check_bad(edited(), [("burn",), ("drop", "burn")], 0, None)

    def test_arguments_are_copied(self):
        keeper, plan = Keeper(yard_task()), plan_with(CARRYING)
        keeper.attempt([("keep", plan)])
        plan.remove(("here",))
        self.assertEqual(keeper.kept(), plan_with(CARRYING))


class Trials(KeeperCase):
    def test_a_block_that_ends_well(self):
        keeper = edited()
        keeper.undo()
        with keeper.trial() as held:
            self.assertIs(held, keeper)
            held.drop("clear")
            held.undo()
            held.undo()
        self.assertEqual(keeper.history(), ["put", "drop", "keep"])
        self.assertEqual([edit for edit, _ in future_of(keeper)], ["aim", "drop"])

    def test_a_block_that_an_error_leaves(self):
        keeper = edited()
        keeper.undo()
        before = [past_of(keeper), future_of(keeper)]
        for error in [UnknownAction, KeyError, KeyboardInterrupt]:
            with self.assertRaises(error):
                with keeper.trial() as held:
                    held.drop("clear")
                    held.aim(LIT, LIT)
                    self.assertEqual(held.history(), ["put", "drop", "keep", "aim", "drop", "aim"])
                    if error == UnknownAction:
                        held.drop("clear")
                    raise error("out")
            self.assertEqual([past_of(keeper), future_of(keeper)], before)

    def test_the_error_goes_on(self):
        keeper = Keeper(yard_task())
        error = KeyError("out")
        with self.assertRaises(KeyError) as caught:
            with keeper.trial():
                raise error
        self.assertIs(caught.exception, error)
        self.assertIsNone(error.__cause__)

    def test_an_error_within_the_block(self):
        keeper = Keeper(yard_task())
        with keeper.trial() as held:
            held.drop("stir")
            self.assert_raises(UnknownAction("stir"), held.drop, "stir")
        self.assertEqual(keeper.history(), ["drop"])

    def test_when_the_block_was_entered(self):
        keeper = Keeper(yard_task())
        trial = keeper.trial()
        self.assertIsInstance(trial, Trial)
        keeper.drop("stir")
        with self.assertRaises(KeyError):
            with trial as held:
                held.drop("light")
                raise KeyError("out")
        self.assertEqual(keeper.history(), ["drop"])

    def test_a_trial_that_is_used_again(self):
        keeper = Keeper(yard_task())
        trial = Trial(keeper=keeper)
        with trial:
            keeper.drop("stir")
        with self.assertRaises(KeyError):
            with trial as held:
                held.drop("light")
                raise KeyError("out")
        self.assertEqual(keeper.history(), ["drop"])

    def test_a_trial_in_a_trial(self):
        for outer_fails in [False, True]:
            for inner_fails in [False, True]:
                keeper = Keeper(yard_task())
                keeper.forget()
                try:
                    with keeper.trial() as held:
                        held.drop("stir")
                        try:
                            with held.trial() as inner:
                                self.assertIs(inner, keeper)
                                inner.drop("light")
                                if inner_fails:
                                    raise KeyError("inner")
                        except KeyError:
                            pass
                        self.assertEqual(keeper.history(), ["forget", "drop", *([] if inner_fails else ["drop"])])
                        if outer_fails:
                            raise KeyError("outer")
                except KeyError:
                    pass
                expected = 1 if outer_fails else 2 if inner_fails else 3
                self.assertEqual(len(keeper.history()), expected)

    def test_the_same_trial_within_itself(self):
        keeper = Keeper(yard_task())
        trial = keeper.trial()
        with self.assertRaises(KeyError):
            with trial:
                keeper.drop("stir")
                with self.assertRaises(IndexError):
                    with trial:
                        keeper.drop("light")
                        raise IndexError("inner")
                self.assertEqual(keeper.history(), ["drop"])
                raise KeyError("outer")
        self.assertEqual(keeper.history(), [])

    def test_an_attempt_in_a_trial(self):
        keeper = Keeper(yard_task())
        with self.assertRaises(BadEdit):
            with keeper.trial() as held:
                held.attempt([("drop", "stir")])
                held.attempt([("drop", "light"), ("drop", "light")])
        self.assertEqual(looks_of(keeper), looks_of(Keeper(yard_task())))

    def test_a_copy_is_not_put_back(self):
        keeper = Keeper(yard_task())
        with self.assertRaises(KeyError):
            with keeper.trial() as held:
                held.drop("stir")
                twin = held.copy()
                raise KeyError("out")
        self.assertEqual([keeper.history(), twin.history()], [[], ["drop"]])


class Model:
    """A keeper by plain lists: what was done, as copies of all that there was."""

    def __init__(self, task):
        self.done = [("", task, None)]
        self.undone = []

    def edit(self, name, *args):
        _, task, plan = self.done[-1]
        world, start, goal = task.base(), task.start, task.goal
        if name == "undo":
            if len(self.done) == 1:
                raise NothingToUndo()
            self.undone.append(self.done.pop())
            return
        if name == "redo":
            if not self.undone:
                raise NothingToRedo()
            self.done.append(self.undone.pop())
            return
        if name == "aim":
            start, goal = args
        elif name == "put":
            world[args[0]] = args[1]
        elif name == "drop":
            world.remove(args[0])
        elif name == "keep":
            if args[0].base() != world:
                raise OtherWorld()
            plan = args[0].copy()
        else:
            plan = None
        if name in ("put", "drop") and plan is not None:
            rows, plan = plan.rows(), Plan(world)
            for state, action in rows:
                if action in world.possible(state):
                    plan[state] = action
        self.done.append((name, Task(world, start, goal), plan))
        self.undone = []

    def save(self):
        return list(self.done), list(self.undone)

    def restore(self, saved):
        self.done, self.undone = saved


class ManyEdits(KeeperCase):
    """Drawn edits, done by a keeper and by a plain model of it."""

    def draw_edit(self, chance, keeper):
        world = keeper.task_now().base()
        name = chance.choice(["put", "put", "drop", "aim", "keep", "keep", "forget", "undo", "undo", "redo", "redo"])
        if name == "put":
            try:
                action = Action(draw_condition(chance, world.seen()), [draw_outcome(chance, world, 0.5), Outcome()][:chance.randint(1, 2)])
            except PlanError:
                action = CLEAR
            return name, chance.choice([*world.actions(), "new", "Bad"]), action
        if name == "drop":
            return name, chance.choice([*world.actions(), "gone"])
        if name == "aim":
            return name, draw_condition(chance, world.seen()), draw_condition(chance, [*world.seen(), "q"])
        if name == "keep":
            task = keeper.task_now()
            plan = draw_plan(chance.randint(0, 99), task)
            return name, plan if chance.random() < 0.8 else Plan(World())
        return (name,)

    def try_edits(self, target, edits):
        """The name of the error, or None."""
        try:
            for edit in edits:
                if isinstance(target, Model):
                    target.edit(*edit)
                else:
                    getattr(target, edit[0])(*edit[1:])
        except PlanError as error:
            return type(error).__name__, vars(error)
        return None

    def check_alike(self, keeper, model):
        _, task, plan = model.done[-1]
        self.assertEqual(keeper.history(), [name for name, _, _ in model.done[1:]])
        other = Keeper(task)
        if plan is not None:
            other.keep(plan)
        self.assertEqual(looks_of(keeper), looks_of(other))
        self.assertTrue(keeper == other)

    def check_future(self, keeper, model):
        twin = keeper.copy()
        for name, task, plan in model.undone[::-1]:
            twin.redo()
            self.assertEqual(twin.history()[-1], name)
            self.assertEqual([twin.task_now().base(), twin.kept()], [task.base(), plan])
        self.assert_raises(NothingToRedo(), twin.redo)

    def test_many_edits(self):
        chance = random.Random(46)
        refused = 0
        for seed in range(40):
            keeper, model = Keeper(draw_task(seed)), Model(draw_task(seed))
            for _ in range(30):
                kind = chance.choice(["edit", "edit", "edit", "attempt", "trial"])
                if kind == "edit":
                    edit = self.draw_edit(chance, keeper)
                    found = self.try_edits(keeper, [edit])
                    self.assertEqual(found, self.try_edits(model, [edit]))
                    refused += found is not None
                else:
                    edits = [self.draw_edit(chance, keeper) for _ in range(chance.randint(0, 3))]
                    saved = model.save()
                    error = self.try_edits(model, edits)
                    if error is not None:
                        model.restore(saved)
                    with self.subTest(kind):
                        self.do_together(keeper, kind, edits, error)
                self.check_alike(keeper, model)
                self.check_future(keeper, model)
        self.assertGreater(refused, 50)

    def do_together(self, keeper, kind, edits, error):
        if kind == "attempt":
            found = self.try_edits(keeper, [("attempt", edits)])
            self.assertEqual(found is None, error is None)
        else:
            try:
                with keeper.trial() as held:
                    for name, *args in edits:
                        getattr(held, name)(*args)
                found = None
            except PlanError as caught:
                found = type(caught).__name__, vars(caught)
            self.assertEqual(found, error)


class Limits(unittest.TestCase):
    """[2]: worlds at the limits and long histories are dealt with within seconds."""

    def test_a_long_history(self):
        before = time.monotonic()
        keeper = Keeper(yard_task())
        keeper.keep(plan_with(CARRYING))
        keeper.put("clear", CLEAR)
        for _ in range(1499):
            keeper.attempt([("drop", "clear"), ("put", "clear", CLEAR)])
        self.assertEqual(len(keeper.history()), 3000)
        for _ in range(3000):
            keeper.undo()
        for _ in range(2999):
            keeper.redo()
        self.assertEqual(len(keeper.copy().history()), 2999)
        self.assertLess(time.monotonic() - before, 8)

    def test_worlds_at_the_limits(self):
        before = time.monotonic()
        for seed in range(30):
            task = draw_task(seed)
            keeper = Keeper(task)
            for name in task.base().actions():
                solution = keeper.solution()
                if solution.won:
                    keeper.keep(solution.plan)
                    self.assertIs(keeper.stands(), True)
                self.assertEqual(solution.won, solve(keeper.task_now()).won)
                self.assertEqual(keeper.won_now(), won_states(keeper.task_now()))
                keeper.drop(name)
        self.assertLess(time.monotonic() - before, 8)


if __name__ == "__main__":
    unittest.main()
