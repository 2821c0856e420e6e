"""[8] worlds, [9] actions of a world, [40] joined worlds."""

import operator
import unittest

from noneorsome.actions import Action
from noneorsome.conditions import Condition
from noneorsome.errors import BadChange, BadName, NameInUse, NoFreeOutcome, UnknownAction, UnknownName
from noneorsome.outcomes import Outcome
from noneorsome.worlds import World
from tests.raising import RaisingCase

ALWAYS = Condition.always()
IDLE = Action(ALWAYS, [Outcome()])


def small_world():
    return World(["lit", "shut"], ["here", "away"], ["luck"])


def changing(changes, need=ALWAYS):
    return Action(need, [Outcome(changes)])


class Lists(RaisingCase):
    def test_the_lists(self):
        world = World(["z", "a"], ["here", "c"], ["luck", "b"])
        self.assertEqual(world.facts(), ["z", "a"])
        self.assertEqual(world.piles(), ["here", "c"])
        self.assertEqual(world.reserves(), ["luck", "b"])
        self.assertEqual(world.seen(), ["z", "a", "here", "c"])
        self.assertEqual(world.counters(), ["here", "c", "luck", "b"])

    def test_nothing_at_all(self):
        for world in [World(), World([], (), [])]:
            for names in [world.facts, world.piles, world.reserves, world.seen, world.counters, world.actions]:
                self.assertEqual(names(), [])
            self.assertEqual(len(world), 0)

    def test_tuples_and_names_of_arguments(self):
        self.assertEqual(World(facts=("a",), reserves=("b",), piles=("c",)), World(["a"], ["c"], ["b"]))

    def test_lists_are_copied(self):
        facts, piles, reserves = ["a"], ["b"], ["c"]
        world = World(facts, piles, reserves)
        for names in [facts, piles, reserves]:
            names.append("d")
        for names in [world.facts, world.piles, world.reserves, world.seen, world.counters, world.actions]:
            names().append("e")
        self.assertEqual(world, World(["a"], ["b"], ["c"]))
        self.assertEqual([world.seen(), world.counters(), world.actions()], [["a", "b"], ["b", "c"], []])

    def test_strings_that_are_no_names(self):
        for name in ["", "and", "always", "Here", "abcdefghi", "a1"]:
            self.assert_raises(BadName(name), World, [name])
            self.assert_raises(BadName(name), World, ["a"], ["b", name])
            self.assert_raises(BadName(name), World, (), (), ["a", name])

    def test_bad_names_in_their_order(self):
        self.assert_raises(BadName("A"), World, ["a", "A"], ["B"], ["C"])
        self.assert_raises(BadName("B"), World, ["a"], ["B"], ["C"])
        self.assert_raises(BadName("C"), World, piles=["a"], reserves=["C", "D"])

    def test_a_bad_name_comes_before_a_name_twice(self):
        self.assert_raises(BadName("B"), World, ["a", "a"], ["B"])
        self.assert_raises(BadName("C"), World, ["a"], ["a"], ["C"])

    def test_names_that_stood_already(self):
        self.assert_raises(NameInUse("a"), World, ["b", "a", "a", "b"])
        self.assert_raises(NameInUse("a"), World, ["a"], ["a"])
        self.assert_raises(NameInUse("b"), World, ["a"], ["b"], ["c", "b", "a"])
        self.assert_raises(NameInUse("a"), World, ["a"], (), ["a"])
        self.assert_raises(NameInUse("c"), World, (), (), ["c", "c"])


class Actions(RaisingCase):
    def test_actions_in_their_order(self):
        world = small_world()
        for name in ["push", "carry", "add"]:
            world[name] = IDLE
        self.assertEqual(world.actions(), ["push", "carry", "add"])
        self.assertEqual(len(world), 3)
        self.assertEqual(["carry" in world, "take" in world, "lit" in world, "" in world], [True, False, False, False])

    def test_a_replaced_action_keeps_its_place(self):
        world = small_world()
        for name in ["push", "carry", "stir"]:
            world[name] = IDLE
        world["push"] = changing({"lit": True})
        self.assertEqual(world.actions(), ["push", "carry", "stir"])
        self.assertEqual(world["push"], changing({"lit": True}))
        self.assertEqual(len(world), 3)

    def test_an_action_removed_and_put_again_comes_last(self):
        world = small_world()
        for name in ["push", "carry", "stir"]:
            world[name] = IDLE
        self.assertIs(world.remove("push"), None)
        self.assertEqual(world.actions(), ["carry", "stir"])
        self.assertNotIn("push", world)
        world["push"] = IDLE
        self.assertEqual(world.actions(), ["carry", "stir", "push"])

    def test_an_unknown_action(self):
        world = small_world()
        world["push"] = IDLE
        for name in ["carry", "lit", "here", "", "and", "Push"]:
            self.assert_raises(UnknownAction(name), operator.getitem, world, name)
            self.assert_raises(UnknownAction(name), world.remove, name)
        world.remove(name="push")
        self.assert_raises(UnknownAction("push"), world.remove, "push")

    def test_an_action_under_the_name_of_something_else(self):
        world = small_world()
        for name in ["here", "lit", "luck"]:
            world[name] = changing({"here": "add"})
        self.assertEqual(world.actions(), ["here", "lit", "luck"])
        self.assertEqual(world.seen(), ["lit", "shut", "here", "away"])

    def test_every_change_that_fits(self):
        world = small_world()
        for name, changes in {
            "lit": [True, False], "here": ["add", "take", "empty"], "luck": ["add"],
        }.items():
            for change in changes:
                world["try"] = changing({name: change})
                self.assertEqual(world["try"].outcome(0)[name], change)
        world["try"] = Action(ALWAYS, [Outcome({"luck": "take"}), Outcome()])
        self.assertEqual(len(world), 1)

    def test_changes_that_do_not_fit(self):
        world = small_world()
        for name, changes in {
            "lit": ["add", "take", "empty"], "shut": ["add"], "here": [True, False], "away": [False],
            "luck": [True, False, "empty"],
        }.items():
            for change in changes:
                with self.subTest(f"{name} {change}"):
                    action = Action(ALWAYS, [Outcome(), Outcome({name: change})])
                    self.assert_raises(BadChange(name, change), operator.setitem, world, "push", action)
        self.assertEqual(len(world), 0)

    def test_bad_names(self):
        world = small_world()
        for name in ["", "and", "never", "Push", "abcdefghi", "a1"]:
            self.assert_raises(BadName(name), operator.setitem, world, name, IDLE)
        self.assertEqual(len(world), 0)

    def test_names_of_the_need(self):
        world = small_world()
        for need, name in [
            (Condition.of("luck"), "luck"), (Condition.of("z") | Condition.of("b") & Condition.of("lit"), "b"),
            (Condition.of("lit") & (Condition.of("q") | ~Condition.of("q")), "q"), (Condition.of("push"), "push"),
        ]:
            self.assert_raises(UnknownName(name), operator.setitem, world, "push", Action(need, [Outcome()]))
        world["push"] = Action(Condition.of("lit") & ~Condition.of("away"), [Outcome()])
        self.assertEqual(str(world["push"].need), "lit and not away")

    def test_the_order_of_the_errors(self):
        world = small_world()
        bad_need = Condition.of("z") & Condition.of("luck")
        for name, action, error in [
            ("Push", Action(bad_need, [Outcome({"q": "add"})]), BadName("Push")),
            ("push", Action(bad_need, [Outcome({"a": "add", "lit": "add"})]), UnknownName("luck")),
            ("push", changing({"lit": "add", "a": "add"}), UnknownName("a")),
            ("push", changing({"z": "add", "lit": "add"}), BadChange("lit", "add")),
            ("push", changing({"shut": "add", "lit": "add"}), BadChange("lit", "add")),
            ("push", changing({"z": "add", "q": "add"}), UnknownName("q")),
            ("push", Action(ALWAYS, [Outcome({"z": True}), Outcome({"a": True})]), UnknownName("z")),
            ("push", Action(ALWAYS, [Outcome({"shut": "add"}), Outcome({"a": True})]), BadChange("shut", "add")),
            ("push", Action(ALWAYS, [Outcome({"luck": "take"}), Outcome({"luck": "empty"})]), BadChange("luck", "empty")),
            ("push", Action(ALWAYS, [Outcome({"luck": "take", "z": True})]), UnknownName("z")),
            ("push", changing({"luck": "take"}), NoFreeOutcome("push")),
        ]:
            self.assert_raises(error, operator.setitem, world, name, action)
        self.assertEqual(world, small_world())

    def test_a_free_outcome_is_due(self):
        world = World([], ["here"], ["luck", "fate"])
        takes = [Outcome({"luck": "take"}), Outcome({"fate": "take", "here": "add"})]
        self.assert_raises(NoFreeOutcome("push"), operator.setitem, world, "push", Action(ALWAYS, takes))
        for free in [Outcome(), Outcome({"luck": "add"}), Outcome({"here": "take"})]:
            world["push"] = Action(ALWAYS, [*takes, free])
        self.assertEqual(world.actions(), ["push"])

    def test_an_error_changes_nothing(self):
        world = small_world()
        world["push"] = IDLE
        for action in [changing({"q": True}), changing({"lit": "add"}), changing({"luck": "take"})]:
            with self.assertRaises(ValueError):
                world["push"] = action
        self.assertEqual(world["push"], IDLE)
        self.assertEqual(world.actions(), ["push"])

    def test_what_is_passed_is_copied(self):
        world = small_world()
        action = Action(Condition.of("lit"), [Outcome({"here": "take"})])
        world["push"] = action
        action.need = Condition.never()
        self.assertEqual(world["push"].need, Condition.of("lit"))

    def test_what_is_returned_is_a_copy(self):
        world = small_world()
        world["push"] = changing({"here": "take"}, Condition.of("lit"))
        twin = world.copy()
        for one in [world, twin]:
            one["push"].need = Condition.never()
            one["push"].outcome(0)["here"] = "add"
            self.assertEqual(one["push"], changing({"here": "take"}, Condition.of("lit")))

    def test_a_world_is_not_iterated_over(self):
        with self.assertRaises(TypeError):
            list(small_world())


class Compared(RaisingCase):
    def filled(self):
        world = small_world()
        world["push"] = changing({"lit": True}, Condition.of("here"))
        world["carry"] = changing({"here": "take"})
        return world

    def test_copies_are_independent(self):
        world = self.filled()
        twin = world.copy()
        self.assertEqual(twin, world)
        twin.remove("push")
        twin["stir"] = IDLE
        self.assertEqual(world, self.filled())
        self.assertEqual(twin.actions(), ["carry", "stir"])
        other = world.copy()
        world["push"] = IDLE
        world.remove("carry")
        self.assertEqual(other, self.filled())

    def test_equal_worlds(self):
        other = self.filled()
        here = Condition.of("here")
        other["push"] = changing({"lit": True}, here & (here | Condition.of("lit")))
        self.assertIs(self.filled() == other, True)
        self.assertIs(self.filled() != other, False)
        self.assertIs(World() == World(), True)

    def test_worlds_that_are_not_equal(self):
        world = self.filled()
        late = self.filled()
        late.remove("push")
        late["push"] = world["push"]
        fewer = self.filled()
        fewer.remove("carry")
        more = self.filled()
        more["stir"] = IDLE
        changed = self.filled()
        changed["push"] = IDLE
        renamed = fewer.copy()
        renamed["fetch"] = world["carry"]
        for other in [late, fewer, more, changed, renamed, small_world(), World(), None, "world"]:
            self.assertIs(world == other, False)
            self.assertIs(other == world, False)
            self.assertIs(world != other, True)

    def test_the_order_of_the_lists_counts(self):
        one = World(["a", "b"], ["c", "d"], ["e", "f"])
        for other in [
            World(["b", "a"], ["c", "d"], ["e", "f"]), World(["a", "b"], ["d", "c"], ["e", "f"]),
            World(["a", "b"], ["c", "d"], ["f", "e"]), World(["a"], ["b", "c", "d"], ["e", "f"]),
            World(["a", "b"], ["c", "d", "e"], ["f"]),
        ]:
            self.assertEqual([one == other, one <= other, other <= one], [False, False, False])

    def test_less_or_equal(self):
        world = self.filled()
        late = self.filled()
        late.remove("push")
        late["push"] = world["push"]
        more = self.filled()
        more["stir"] = IDLE
        fewer = self.filled()
        fewer.remove("push")
        changed = self.filled()
        changed["push"] = IDLE
        for one, other, answer in [
            (world, world, True), (world, late, True), (late, world, True), (world, more, True), (more, world, False),
            (fewer, world, True), (world, fewer, False), (small_world(), fewer, True), (changed, world, False),
            (world, changed, False), (fewer, changed, True), (World(), world, False),
        ]:
            self.assertIs(one <= other, answer)
            self.assertIs(other >= one, answer)

    def test_there_is_no_order_beside_other_things(self):
        with self.assertRaises(TypeError):
            small_world() <= 1


class Joined(RaisingCase):
    def setUp(self):
        self.one = World(["lit"], ["here"], ["luck"])
        self.one["push"] = changing({"lit": True, "here": "take"}, Condition.of("here"))
        self.one["wait"] = IDLE
        self.other = World(["shut"], ["there"], ["fate"])
        self.other["carry"] = changing({"there": "add", "fate": "add"}, Condition.of("shut"))

    def test_the_parts_in_their_order(self):
        joined = self.one | self.other
        self.assertEqual(joined.facts(), ["lit", "shut"])
        self.assertEqual(joined.piles(), ["here", "there"])
        self.assertEqual(joined.reserves(), ["luck", "fate"])
        self.assertEqual(joined.actions(), ["push", "wait", "carry"])
        for part in [self.one, self.other]:
            for name in part.actions():
                self.assertEqual(joined[name], part[name])
        self.assertEqual((self.other | self.one).actions(), ["carry", "push", "wait"])
        self.assertEqual((self.other | self.one).facts(), ["shut", "lit"])

    def test_actions_do_as_before(self):
        joined = self.one | self.other
        self.assertEqual(joined.possible(["here", "shut"]), ["push", "wait", "carry"])
        self.assertEqual(joined.results(["shut"], "carry"), [(0, (), ("shut", "there"))])

    def test_the_joined_world_is_of_its_own(self):
        before, behind = self.one.copy(), self.other.copy()
        joined = self.one | self.other
        joined.remove("push")
        joined["new"] = IDLE
        self.assertEqual([self.one, self.other], [before, behind])
        joined = self.one | self.other
        self.one.remove("push")
        self.other["carry"] = IDLE
        self.assertEqual([joined["push"], joined["carry"]], [before["push"], behind["carry"]])

    def test_with_an_empty_world(self):
        self.assertEqual(self.one | World(), self.one)
        self.assertEqual(World() | self.one, self.one)

    def test_names_in_use(self):
        for other in [World(["lit"]), World([], ["lit"]), World([], [], ["lit"])]:
            self.assert_raises(NameInUse("lit"), operator.or_, self.one, other)
        self.assert_raises(NameInUse("here"), operator.or_, self.one, World(["a"], ["here"], ["luck"]))
        self.assert_raises(NameInUse("luck"), operator.or_, self.one, World(["a", "luck"], ["here"]))
        self.assert_raises(NameInUse("lit"), operator.or_, self.one, World(["a"], ["b"], ["c", "lit", "here"]))
        self.assert_raises(NameInUse("lit"), operator.or_, self.one, self.one)

    def test_actions_in_use(self):
        other = World(["shut"])
        for name in ["carry", "wait", "push"]:
            other[name] = IDLE
        self.assert_raises(NameInUse("wait"), operator.or_, self.one, other)
        late = World(["shut"], [], ["luck"])
        late["wait"] = IDLE
        self.assert_raises(NameInUse("luck"), operator.or_, self.one, late)

    def test_actions_are_not_held_against_the_other_names(self):
        other = World(["push"], ["wait"])
        other["here"] = IDLE
        joined = self.one | other
        self.assertEqual(joined.seen(), ["lit", "push", "here", "wait"])
        self.assertEqual(joined.actions(), ["push", "wait", "here"])

    def test_an_error_changes_nothing(self):
        before = self.one.copy()
        with self.assertRaises(NameInUse):
            self.one | self.one
        self.assertEqual(self.one, before)

    def test_other_things_are_not_joined(self):
        with self.assertRaises(TypeError):
            self.one | None


if __name__ == "__main__":
    unittest.main()
