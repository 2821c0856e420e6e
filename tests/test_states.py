"""[10] states, [11] possible actions, [12] results, [13] taken and added."""

import inspect
import itertools
import unittest

from noneorsome.actions import Action
from noneorsome.conditions import Condition
from noneorsome.errors import NoOutcome, NoState, NotPossible, UnknownAction
from noneorsome.outcomes import Outcome
from noneorsome.worlds import World
from tests.raising import RaisingCase

ALWAYS = Condition.always()


def one_action(world, outcomes, need=ALWAYS):
    world["act"] = Action(need, [Outcome(changes) for changes in outcomes])
    return world


class States(RaisingCase):
    def test_all_states_in_the_order_of_counting(self):
        self.assertEqual(World().states(), [()])
        self.assertEqual(World(["x"]).states(), [(), ("x",)])
        self.assertEqual(World(["x"], ["y"]).states(), [(), ("y",), ("x",), ("x", "y")])
        self.assertEqual(World(["y"], ["x"]).states(), [(), ("x",), ("y",), ("y", "x")])
        self.assertEqual(World(["c"], ["b", "a"], ["r"]).states(), [
            (), ("a",), ("b",), ("b", "a"), ("c",), ("c", "a"), ("c", "b"), ("c", "b", "a"),
        ])

    def test_many_states(self):
        world = World(["a", "b", "c"], ["d", "e", "f"])
        found = ["".join("1" if name in state else "0" for name in world.seen()) for state in world.states()]
        self.assertEqual(found, [format(number, "06b") for number in range(64)])

    def test_the_list_is_of_its_own(self):
        world = World(["x"])
        world.states().clear()
        self.assertEqual(world.states(), [(), ("x",)])

    def test_the_state_of_names_in_any_order(self):
        world = World(["c", "b"], ["a"], ["r"])
        for names in itertools.permutations(["a", "b", "c"]):
            self.assertEqual(world.state_of(names), ("c", "b", "a"))
            self.assertEqual(world.state_of(list(names)), ("c", "b", "a"))
        self.assertEqual(world.state_of(["a", "c"]), ("c", "a"))
        self.assertEqual(world.state_of(()), ())
        self.assertEqual(world.state_of([]), ())
        self.assertEqual(world.state_of(names=["b"]), ("b",))

    def test_no_states(self):
        world = one_action(World(["c"], ["a"], ["r"]), [{}])
        for names in [["q"], ("a", "q"), ["a", "a"], ("c", "a", "c"), ["r"], ("a", "r"), ["act"], [""], ["C"]]:
            with self.subTest(names):
                for call in [
                    world.state_of, world.possible, lambda state: world.results(state, "act"),
                    lambda state: world.shifts(state, "act", 0), lambda state: list(world.moves(state)),
                ]:
                    self.assert_raises(NoState(names), call, names)


class Possible(RaisingCase):
    def setUp(self):
        self.world = World(["lit"], ["p", "q"], ["r"])
        lit, p = Condition.of("lit"), Condition.of("p")
        self.world["needs"] = Action(lit, [Outcome({"p": "add"})])
        self.world["takes"] = Action(ALWAYS, [Outcome({"p": "take"}), Outcome()])
        self.world["both"] = Action(ALWAYS, [Outcome({"p": "take"}), Outcome({"q": "take"})])
        self.world["hopeless"] = Action(Condition.never(), [Outcome()])
        self.world["empties"] = Action(ALWAYS, [Outcome({"p": "empty", "q": "empty"})])
        self.world["reserve"] = Action(~p, [Outcome({"r": "take"}), Outcome({"lit": True})])

    def test_possible_actions(self):
        for state, names in [
            ((), ["empties", "reserve"]),
            (("lit",), ["needs", "empties", "reserve"]),
            (("p",), ["takes", "empties"]),
            (("q",), ["empties", "reserve"]),
            (("p", "q"), ["takes", "both", "empties"]),
            (("q", "p", "lit"), ["needs", "takes", "both", "empties"]),
        ]:
            with self.subTest(state):
                self.assertEqual(self.world.possible(state), names)
                self.assertEqual(self.world.possible(list(state)), names)

    def test_a_need_that_holds_without_the_pile(self):
        world = one_action(World([], ["p"]), [{"p": "take"}], ~Condition.of("p"))
        self.assertEqual([world.possible(state) for state in world.states()], [[], []])

    def test_no_actions(self):
        self.assertEqual(World().possible([]), [])
        self.assertEqual(World(["x"]).possible(["x"]), [])


class Results(RaisingCase):
    def test_a_fact_that_is_set(self):
        world = one_action(World(["a", "b"]), [{"a": True}, {"a": False}, {"b": True, "a": False}])
        self.assertEqual(world.results([], "act"), [(0, (), ("a",)), (1, (), ()), (2, (), ("b",))])
        self.assertEqual(world.results(["b", "a"], "act"), [(0, (), ("a", "b")), (1, (), ("b",)), (2, (), ("b",))])

    def test_a_pile_that_is_added_to(self):
        world = one_action(World([], ["p"]), [{"p": "add"}])
        self.assertEqual(world.results([], "act"), [(0, (), ("p",))])
        self.assertEqual(world.results(["p"], "act"), [(0, (), ("p",))])

    def test_a_pile_that_is_emptied(self):
        world = one_action(World([], ["p", "q"]), [{"p": "empty"}])
        self.assertEqual(world.results([], "act"), [(0, (), ())])
        self.assertEqual(world.results(["p", "q"], "act"), [(0, (), ("q",))])

    def test_a_reserve_is_not_seen(self):
        world = one_action(World(["a"], [], ["r", "s"]), [{"r": "take", "s": "add"}, {"r": "add"}])
        self.assertEqual(world.results(["a"], "act"), [(0, (), ("a",)), (1, (), ("a",))])

    def test_nothing_is_changed(self):
        world = one_action(World(["a"], ["p"]), [{}])
        for state in world.states():
            self.assertEqual(world.results(state, "act"), [(0, (), state)])

    def test_gone_with_one_pile(self):
        world = one_action(World(["a"], ["p"]), [{"p": "take", "a": True}])
        self.assertEqual(world.results(["p"], "act"), [(0, (), ("a", "p")), (0, ("p",), ("a",))])

    def test_gone_with_two_piles(self):
        world = one_action(World([], ["q", "p"]), [{"p": "take", "q": "take"}])
        self.assertEqual(world.results(["p", "q"], "act"), [
            (0, (), ("q", "p")), (0, ("q",), ("p",)), (0, ("q", "p"), ()), (0, ("p",), ("q",)),
        ])

    def test_gone_with_three_piles(self):
        world = one_action(World([], ["p", "q", "r"]), [{"r": "take", "p": "take", "q": "take"}])
        gone = [subset for _, subset, _ in world.results(["p", "q", "r"], "act")]
        self.assertEqual(gone, [
            (), ("p",), ("p", "q"), ("p", "q", "r"), ("p", "r"), ("q",), ("q", "r"), ("r",),
        ])
        for index, subset, behind in world.results(["r", "p", "q"], "act"):
            self.assertEqual(index, 0)
            self.assertEqual(behind, tuple(name for name in "pqr" if name not in subset))

    def test_two_of_three_piles(self):
        world = one_action(World([], ["p", "q", "r"]), [{"p": "take", "q": "empty", "r": "take"}])
        self.assertEqual(world.results(["p", "r", "q"], "act"), [
            (0, (), ("p", "r")), (0, ("p",), ("r",)), (0, ("p", "r"), ()), (0, ("r",), ("p",)),
        ])

    def test_outcomes_with_the_same_changes(self):
        world = one_action(World([], ["p"]), [{"p": "take"}, {"p": "take"}, {}])
        self.assertEqual(world.results(["p"], "act"), [
            (0, (), ("p",)), (0, ("p",), ()), (1, (), ("p",)), (1, ("p",), ()), (2, (), ("p",)),
        ])

    def test_errors_in_their_order(self):
        world = one_action(World(["a"], ["p"], ["r"]), [{"p": "take"}], Condition.of("a"))
        self.assert_raises(NoState(["p", "p"]), world.results, ["p", "p"], "none")
        self.assert_raises(NoState(["r"]), world.results, ["r"], "act")
        self.assert_raises(UnknownAction("none"), world.results, [], "none")
        self.assert_raises(UnknownAction("a"), world.results, ["a", "p"], "a")
        self.assert_raises(NotPossible((), "act"), world.results, [], "act")
        self.assert_raises(NotPossible(("p",), "act"), world.results, ["p"], "act")
        self.assert_raises(NotPossible(("a",), "act"), world.results, ["a"], "act")
        self.assertEqual(len(world.results(state=["p", "a"], action="act")), 2)

    def test_no_actions_at_all(self):
        self.assert_raises(UnknownAction("act"), World().results, [], "act")


class Moves(RaisingCase):
    def setUp(self):
        self.world = World(["a"], ["p"])
        self.world["take"] = Action(ALWAYS, [Outcome({"p": "take"}), Outcome({"a": True})])
        self.world["hide"] = Action(Condition.of("a"), [Outcome()])
        self.world["fill"] = Action(ALWAYS, [Outcome({"p": "add"})])

    def test_all_moves_in_their_order(self):
        self.assertEqual(list(self.world.moves(["p"])), [
            ("take", 0, (), ("p",)), ("take", 0, ("p",), ()), ("take", 1, (), ("a", "p")), ("fill", 0, (), ("p",)),
        ])
        self.assertEqual(list(self.world.moves(())), [("fill", 0, (), ("p",))])
        self.assertEqual(list(self.world.moves(state=["a"])), [("hide", 0, (), ("a",)), ("fill", 0, (), ("a", "p"))])

    def test_it_is_a_generator(self):
        self.assertTrue(inspect.isgeneratorfunction(World.moves))
        self.assertEqual(next(self.world.moves(["p"])), ("take", 0, (), ("p",)))
        self.assertEqual(list(World().moves([])), [])

    def test_the_error_comes_when_it_is_iterated(self):
        moves = self.world.moves(["q"])
        self.assert_raises(NoState(["q"]), next, moves)

    def test_an_edit_between_has_no_effect(self):
        moves = self.world.moves(["p"])
        next(moves)
        self.world.remove("fill")
        self.assertEqual(len(list(moves)), 3)


class Shifts(RaisingCase):
    def test_each_change(self):
        world = one_action(World(["a"], ["p", "q", "s"], ["r", "t"]), [
            {"t": "add", "p": "take", "q": "add", "s": "empty", "a": True}, {"r": "take", "t": "take"}, {},
        ])
        self.assertEqual(world.shifts(["p"], "act", 0), (("p",), ("q", "t")))
        self.assertEqual(world.shifts(["s", "p"], "act", 0), (("p", "s"), ("q", "t")))
        self.assertEqual(world.shifts(("p", "q"), "act", 1), (("r", "t"), ()))
        self.assertEqual(world.shifts(state=("p", "q"), action="act", index=2), ((), ()))

    def test_the_order_is_that_of_the_counters(self):
        changes = {"b": "take", "a": "take", "d": "take", "c": "take"}
        world = one_action(World([], ["d", "b"], ["c", "a"]), [changes, {}])
        self.assertEqual(world.shifts(["b", "d"], "act", 0), (("d", "b", "c", "a"), ()))
        world = one_action(World([], ["d", "b"], ["c", "a"]), [{name: "add" for name in "abcd"}])
        self.assertEqual(world.shifts([], "act", 0), ((), ("d", "b", "c", "a")))

    def test_an_emptied_pile_that_has_none(self):
        world = one_action(World([], ["p"]), [{"p": "empty"}])
        self.assertEqual(world.shifts([], "act", 0), ((), ()))
        self.assertEqual(world.shifts(["p"], "act", 0), (("p",), ()))

    def test_errors_in_their_order(self):
        world = one_action(World(["a"], ["p"], ["r"]), [{"p": "take"}, {}], Condition.of("a"))
        self.assert_raises(NoState(("r",)), world.shifts, ("r",), "none", 7)
        self.assert_raises(UnknownAction("none"), world.shifts, ["p"], "none", 7)
        self.assert_raises(NotPossible(("p",), "act"), world.shifts, ["p"], "act", 7)
        for index in [7, 2, -1]:
            self.assert_raises(NoOutcome(index), world.shifts, ["p", "a"], "act", index)
        self.assertEqual(world.shifts(["p", "a"], "act", 1), ((), ()))


if __name__ == "__main__":
    unittest.main()
