"""[27] counterplays, [28] counterplays that hold, [29] faults of a counterplay."""

import unittest

from noneorsome.actions import Action
from noneorsome.conditions import Condition
from noneorsome.counterplays import Counterplay, counterplay_fault
from noneorsome.errors import NoPosition, UnknownAction
from noneorsome.outcomes import Outcome
from noneorsome.tasks import Task
from noneorsome.worlds import World
from tests.losing import AWAY, HERE, LIT, changed_rows, losing_play, losing_rows, losing_task, yard
from tests.raising import RaisingCase

ALWAYS = Condition.always()


class Positions(RaisingCase):
    def test_what_is_asked(self):
        play = losing_play()
        self.assertEqual(len(play), 6)
        self.assertEqual(play.rows(), losing_rows())
        self.assertEqual([play.state_at(0), play.state_at(3), play.state_at(4)], [("here",), (), ("here", "away")])
        self.assertEqual([play.floor_at(0, "here"), play.floor_at(0, "luck"), play.floor_at(5, "away")], [2, 1, 3])
        self.assertEqual(play.reply_at(0, "move"), (0, ("here",), 2))
        self.assertEqual(play.reply_at(position=5, action="clear"), (0, (), 1))
        self.assertEqual([play.state_at(position=2), play.floor_at(counter="luck", position=2)], [("away",), 1])

    def test_no_positions(self):
        play = Counterplay(rows=[])
        self.assertEqual([len(play), play.rows()], [0, []])
        self.assert_raises(NoPosition(0), play.state_at, 0)

    def test_floors_that_are_not_listed(self):
        play = losing_play()
        self.assertEqual([play.floor_at(0, "away"), play.floor_at(3, "here"), play.floor_at(1, "q")], [0, 0, 0])

    def test_positions_that_are_not_there(self):
        play = losing_play()
        for position in [-1, -6, 6, 7, 10 ** 30]:
            self.assert_raises(NoPosition(position), play.state_at, position)
            self.assert_raises(NoPosition(position), play.floor_at, position, "here")
            self.assert_raises(NoPosition(position), play.reply_at, position, "none")

    def test_replies_that_are_not_there(self):
        play = losing_play()
        for position, action in [(0, "clear"), (3, "stir"), (5, "none"), (0, "here"), (0, "")]:
            self.assert_raises(UnknownAction(action), play.reply_at, position, action)

    def test_copies(self):
        rows = losing_rows()
        play = Counterplay(rows)
        rows[0][1]["here"] = 9
        rows[0][2].clear()
        rows.pop()
        play.rows()[1][1]["here"] = 9
        play.rows()[1][2]["stir"] = (1, (), 1)
        play.rows().clear()
        self.assertEqual(play.rows(), losing_rows())
        self.assertEqual(play.reply_at(0, "stir"), (1, (), 0))

    def test_rows_as_a_tuple(self):
        self.assertEqual(Counterplay(tuple(losing_rows())).rows(), losing_rows())


class Faults(RaisingCase):
    def check(self, expected, rows, task=None, without=()):
        task = losing_task() if task is None else task
        self.assertEqual(counterplay_fault(task, Counterplay(rows), without=without), expected)

    def test_a_counterplay_that_holds(self):
        self.assertIsNone(counterplay_fault(losing_task(), losing_play()))
        self.assertIsNone(counterplay_fault(counterplay=losing_play(), task=losing_task(), without=[]))

    def test_empty(self):
        self.check(("empty",), [])
        self.check(("empty",), [], Task(yard(), Condition.never(), LIT))

    def test_start(self):
        for state in [(), ("away",), ("here", "away"), ("lit",), ("away", "here"), ("here", "here"), ("q", "here")]:
            self.check(("start",), changed_rows(0, state))
        self.check(("start",), losing_rows(), Task(yard(), ~HERE, LIT))
        self.check(("start",), changed_rows(0, ("away", "here")), Task(yard(), ALWAYS, LIT))
        self.check(("start",), changed_rows(0, ("here", "q")), Task(yard(), ALWAYS, LIT))

    def test_start_is_ahead_of_the_rest(self):
        self.check(("start",), changed_rows(0, ("lit",), {"here": -1}))
        self.check(("start",), losing_rows(), Task(yard(), AWAY, ALWAYS))

    def test_states(self):
        self.check(("state", 0), losing_rows(), Task(yard(), HERE, HERE))
        for position in range(1, 6):
            # The reply that leads there is ahead of the state itself.
            for state in [("lit",), ("lit", "here"), ("away", "here"), ("q",), ("here", "here"), ("luck",)]:
                self.check(("reply", *self.first_reply_into(position)), changed_rows(position, state))
        rows = changed_rows(0, None, None, {"burn": (0, (), 1)})
        rows[1] = (("lit", "here"), {"here": 1}, {})
        self.check(("state", 1), rows)
        self.check(("state", 6), [*losing_rows(), (("lit",), {}, {})])
        self.check(("state", 6), [*losing_rows(), (("here", "here"), {"here": 1}, {})])

    def first_reply_into(self, position):
        for at, (_, _, replies) in enumerate(losing_rows()):
            for action in yard().actions():
                if action in replies and replies[action][2] == position:
                    return at, action
        return None

    def test_floors(self):
        for position, floors, counter in [
            (0, {"here": 0}, "here"), (0, {"here": -1}, "here"), (0, {"away": 1}, "away"), (0, {"away": -1}, "away"),
            (0, {"luck": -1}, "luck"), (0, {"away": 1, "here": 0}, "here"), (0, {"luck": -1, "away": 2}, "away"),
        ]:
            self.check(("floor", position, counter), changed_rows(position, None, floors))
        extra = (("away",), {"away": 2}, {"clear": (0, (), 1)})
        for floors, counter in [
            ({}, "away"), ({"away": 0, "here": 1}, "here"), ({"away": 1, "luck": -1}, "luck"), ({"away": -5}, "away"),
        ]:
            self.check(("floor", 6, counter), [*losing_rows(), (extra[0], floors, extra[2])])
        self.check(None, [*losing_rows(), extra])

    def test_floors_of_other_names(self):
        self.check(None, changed_rows(0, None, {"lit": -1, "q": 5, "stir": 7}))

    def test_state_and_floor_and_replies_by_positions(self):
        rows = changed_rows(0, None, None, {"burn": None})
        rows[1] = (("here",), {"here": 0}, {})
        rows[3] = (("lit",), {}, {})
        self.check(("reply", 0, "burn"), rows)
        rows[0] = losing_rows()[0]
        self.check(("floor", 1, "here"), rows)
        rows[1] = losing_rows()[1]
        self.check(("reply", 1, "stir"), rows)

    def test_a_floor_is_ahead_of_a_reply(self):
        self.check(("floor", 0, "here"), changed_rows(0, None, {"here": 0}, {"stir": None}))
        self.check(("state", 0), changed_rows(0, None, {"here": 0}), Task(yard(), HERE, HERE))

    def test_replies_that_are_missing(self):
        for position, action in [(0, "stir"), (0, "burn"), (0, "move"), (2, "clear"), (4, "clear"), (5, "clear")]:
            self.check(("reply", position, action), changed_rows(position, None, None, {action: None}))
        self.check(("reply", 0, "burn"), changed_rows(0, None, None, {"burn": None, "move": None}))

    def test_actions_go_by_the_order_of_the_world(self):
        world = yard()
        stir = world["stir"]
        world.remove("stir")
        world["stir"] = stir
        rows = changed_rows(0, None, None, {"stir": None, "move": None})
        self.check(("reply", 0, "stir"), rows)
        self.check(("reply", 0, "move"), rows, Task(world, HERE & ~AWAY, LIT))

    def test_replies_that_are_no_results(self):
        for position, action, reply in [
            (0, "stir", (2, (), 0)), (0, "stir", (-1, (), 0)), (0, "stir", (0, ("here",), 0)), (0, "stir", (0, (), 3)),
            (0, "stir", (1, ("here",), 0)), (0, "move", (0, ("away",), 2)), (0, "move", (0, (), 2)),
            (0, "move", (0, ("here",), 4)), (0, "burn", (0, (), 0)), (0, "burn", (1, ("luck",), 1)),
            (0, "burn", (1, (), 6)), (0, "burn", (1, (), -1)), (0, "burn", (1, (), -6)), (0, "burn", (1, (), 100)),
            (4, "move", (0, ("here", "away"), 5)), (5, "clear", (0, ("away",), 1)), (5, "clear", (0, (), 4)),
        ]:
            self.check(("reply", position, action), changed_rows(position, None, None, {action: reply}))

    def test_replies_that_are_not_needed(self):
        for action in ["clear", "quit", "none", "here", ""]:
            self.check(None, changed_rows(0, None, None, {action: (7, ("q",), -3)}))

    def test_a_reserve_that_is_taken_from(self):
        for floor, fault in [(0, ("rise", 0, "burn", "luck")), (1, None), (2, None)]:
            rows = changed_rows(0, None, {"luck": floor})
            rows[2] = (("away",), {"away": 1, "luck": floor}, {"clear": (0, (), 0)})
            self.check(fault, rows)

    def test_a_pile_that_is_taken_from(self):
        for floor, fault in [(1, ("rise", 1, "move", "here")), (2, None)]:
            rows = changed_rows(1, None, {"here": floor})
            rows[0] = (("here",), {"here": floor, "luck": 1}, rows[0][2])
            self.check(fault, rows)
        self.check(("rise", 1, "move", "here"), changed_rows(4, None, {"here": 2}))
        self.check(("rise", 1, "move", "here"), changed_rows(4, None, {"here": 3}))

    def test_a_pile_that_is_gone_or_emptied_has_no_number_before(self):
        self.check(None, changed_rows(5, None, {"away": 10 ** 29}))
        rows = changed_rows(0, None, None, {"move": (0, ("here",), 2)})
        self.check(None, rows)

    def test_what_is_neither_taken_nor_added_to(self):
        self.check(("rise", 0, "burn", "here"), changed_rows(1, None, {"here": 3}))
        self.check(("rise", 1, "burn", "here"), changed_rows(0, None, {"here": 3}))
        self.check(("rise", 0, "move", "luck"), changed_rows(2, None, {"luck": 2}))
        self.check(("rise", 2, "clear", "luck"), changed_rows(2, None, {"luck": 0}))

    def test_what_is_added_to_may_rise(self):
        self.check(None, changed_rows(2, None, {"away": 10 ** 29}))
        rows = changed_rows(3, None, {"luck": 7})
        self.check(None, rows)

    def test_emptying_what_is_not_there(self):
        """A pile that has none is not lessened by being emptied, so it must not rise either."""
        world = World([], ["here", "away"], ["luck"])
        world["clear"] = Action(ALWAYS, [Outcome({"here": "empty"})])
        task = Task(world, ALWAYS, AWAY)
        self.assertIsNone(counterplay_fault(task, Counterplay([((), {}, {"clear": (0, (), 0)})])))
        rows = [(("here",), {"here": 4}, {"clear": (0, (), 1)}), ((), {"here": 0}, {"clear": (0, (), 1)})]
        self.assertIsNone(counterplay_fault(task, Counterplay(rows)))
        # Behind the first fault there is the floor itself.
        rows = [((), {}, {"clear": (0, (), 1)}), ((), {"here": 1}, {"clear": (0, (), 1)})]
        self.assertEqual(counterplay_fault(task, Counterplay(rows)), ("rise", 0, "clear", "here"))
        rows = [(("here",), {"here": 1}, {"clear": (0, (), 1)}), ((), {"here": 1}, {"clear": (0, (), 1)})]
        self.assertEqual(counterplay_fault(task, Counterplay(rows)), ("floor", 1, "here"))

    def test_the_first_counter_that_rises(self):
        rows = changed_rows(1, None, {"here": 5, "luck": 1})
        self.check(("rise", 0, "burn", "here"), rows)
        rows = changed_rows(1, None, {"luck": 1})
        self.check(("rise", 0, "burn", "luck"), rows)

    def test_a_reply_and_a_rise_action_by_action(self):
        rows = changed_rows(0, None, {"luck": 0}, {"move": None})
        self.check(("rise", 0, "burn", "luck"), rows)
        rows = changed_rows(0, None, {"luck": 0}, {"stir": None})
        self.check(("reply", 0, "stir"), rows)

    def test_without(self):
        rows = changed_rows(0, None, {"luck": 0}, {"stir": None})
        for without, fault in [
            ([], ("reply", 0, "stir")), (["stir"], ("rise", 0, "burn", "luck")), (("burn",), ("reply", 0, "stir")),
            (["burn", "stir"], ("rise", 0, "move", "luck")), (["none"], ("reply", 0, "stir")),
            (("here", "burn", "none", "stir", "move", "stir"), None),
        ]:
            self.check(fault, rows, None, without)
        self.check(("empty",), [], None, yard().actions())
        self.check(("start",), changed_rows(0, ("lit",)), None, yard().actions())
        self.check(("floor", 0, "here"), changed_rows(0, None, {"here": 0}), None, yard().actions())

    def test_without_is_passed_by_its_name(self):
        with self.assertRaises(TypeError):
            counterplay_fault(losing_task(), losing_play(), [])

    def test_nothing_is_changed(self):
        task, play, without = losing_task(), losing_play(), ["stir"]
        counterplay_fault(task, play, without=without)
        self.assertEqual([task.base(), play.rows(), without], [yard(), losing_rows(), ["stir"]])


if __name__ == "__main__":
    unittest.main()
