"""[30] matches."""

import random
import unittest

from noneorsome.counterplays import Counterplay
from noneorsome.errors import BadCounterplay, NotPossible, UnknownAction
from noneorsome.matches import Match
from noneorsome.runs import Run
from noneorsome.stocks import Stock
from noneorsome.tasks import Task
from tests.losing import AWAY, LIT, changed_rows, losing_play, losing_rows, losing_task, yard
from tests.raising import RaisingCase


def told(match):
    stock = match.stock_now()
    return match.state_now(), {name: stock[name] for name in stock.names()}, match.position_now(), match.steps_done()


class Beginning(RaisingCase):
    def test_the_floors_are_the_first_numbers(self):
        self.assertEqual(told(Match(losing_task(), losing_play())), (("here",), {"here": 2, "luck": 1}, 0, []))
        self.assertEqual(Match(counterplay=losing_play(), task=losing_task()).position_now(), 0)

    def test_the_first_position_is_the_one_with_the_number_0(self):
        rows = [
            (("away",), {"away": 4}, {"clear": (0, (), 1)}),
            (("here",), {"here": 1}, {"stir": (1, (), 1), "burn": (2, (), 1), "move": (0, ("here",), 0)}),
        ]
        match = Match(Task(yard(), AWAY, LIT), Counterplay(rows))
        self.assertEqual(told(match), (("away",), {"away": 4}, 0, []))
        match.answer("clear")
        self.assertEqual(told(match)[:3], (("here",), {"here": 1}, 1))
        self.assertEqual(match.answer("move"), (0, {"here": 1, "away": 4}))
        self.assertEqual(told(match)[:3], (("away",), {"away": 4}, 0))

    def test_floors_of_other_names(self):
        play = Counterplay(changed_rows(0, None, {"lit": 5, "Q": -1}))
        self.assertEqual(told(Match(losing_task(), play)), (("here",), {"here": 2, "luck": 1}, 0, []))

    def test_counterplays_that_do_not_hold(self):
        for rows, fault in [
            ([], ("empty",)), (changed_rows(0, ("away",)), ("start",)),
            (changed_rows(0, None, {"here": 0}), ("floor", 0, "here")),
            (changed_rows(0, None, None, {"burn": None}), ("reply", 0, "burn")),
            (changed_rows(1, None, {"here": 3}), ("rise", 0, "burn", "here")),
        ]:
            self.assert_raises(BadCounterplay(fault), Match, losing_task(), Counterplay(rows))

    def test_copies(self):
        task, play = losing_task(), losing_play()
        match = Match(task, play)
        task.set_goal(task.start)
        match.stock_now()["here"] = 0
        match.steps_done().append(1)
        self.assertEqual(told(match), (("here",), {"here": 2, "luck": 1}, 0, []))
        self.assertEqual([play.rows(), task.base()], [losing_rows(), yard()])


class Answers(RaisingCase):
    def setUp(self):
        self.match = Match(losing_task(), losing_play())

    def test_adding_is_at_least_one_and_at_least_the_next_floor(self):
        self.assertEqual(self.match.answer("stir"), (1, {"here": 2}))
        self.assertEqual(told(self.match), (("here",), {"here": 4, "luck": 1}, 0, [("stir", 1, {"here": 2})]))

    def test_taking_one(self):
        self.assertEqual(self.match.answer(action="burn"), (1, {"luck": 1}))
        self.assertEqual(self.match.position_now(), 1)
        self.assertEqual(self.match.answer("move"), (0, {"here": 1, "away": 1}))
        self.assertEqual(told(self.match), (("here", "away"), {"here": 1, "away": 1}, 4, [
            ("burn", 1, {"luck": 1}), ("move", 0, {"here": 1, "away": 1}),
        ]))

    def test_taking_all(self):
        self.match.answer("stir")
        self.assertEqual(self.match.answer("move"), (0, {"here": 4, "away": 1}))
        self.assertEqual(told(self.match)[:3], (("away",), {"away": 1, "luck": 1}, 2))

    def test_emptying(self):
        for action in ["move", "clear"]:
            found = self.match.answer(action)
        self.assertEqual(found, (0, {"here": 2}))
        self.assertEqual(told(self.match)[:3], (("here",), {"here": 2, "luck": 1}, 0))

    def test_where_nothing_can_be_done(self):
        for action in ["burn", "stir"]:
            found = self.match.answer(action)
        self.assertEqual(found, (0, {"here": 2, "luck": 1}))
        self.assertEqual(told(self.match)[:3], ((), {"luck": 1}, 3))
        for action in yard().actions():
            self.assert_raises(NotPossible((), action), self.match.answer, action)

    def test_errors_change_nothing(self):
        self.match.answer("burn")
        before = told(self.match)
        for action in ["none", "here", "luck", ""]:
            self.assert_raises(UnknownAction(action), self.match.answer, action)
        for action in ["clear", "quit"]:
            self.assert_raises(NotPossible(("here",), action), self.match.answer, action)
        self.assertEqual(told(self.match), before)

    def test_replies_to_what_is_not_possible_are_not_played(self):
        match = Match(losing_task(), Counterplay(changed_rows(0, None, None, {"clear": (0, (), 0), "none": (0, (), 0)})))
        self.assert_raises(NotPossible(("here",), "clear"), match.answer, "clear")
        self.assert_raises(UnknownAction("none"), match.answer, "none")

    def test_amounts_are_a_dict_of_its_own(self):
        self.match.answer("stir")[1].clear()
        self.assertEqual(self.match.steps_done(), [("stir", 1, {"here": 2})])
        self.match.steps_done()[0][2].clear()
        self.assertEqual(self.match.steps_done(), [("stir", 1, {"here": 2})])

    def test_many_steps(self):
        """Whatever is chosen, no goal is reached, and a run by numbers does the same."""
        task, chance = losing_task(), random.Random(30)
        for _ in range(40):
            match = Match(task, losing_play())
            run = Run(task.base(), [], match.stock_now())
            for _ in range(150):
                possible = task.base().possible(match.state_now())
                if not possible:
                    break
                action = chance.choice(possible)
                index, amounts = match.answer(action)
                run.step(action, index, amounts)
                self.assertEqual(run.state_now(), match.state_now())
                self.assertEqual(run.stock_now(), match.stock_now())
                self.assertNotIn(match.state_now(), task.goal)
                self.check_floors(match)
            self.assertEqual(run.steps_done(), match.steps_done())

    def check_floors(self, match):
        state, floors, _ = losing_rows()[match.position_now()]
        self.assertEqual(match.state_now(), state)
        self.assertLessEqual(Stock(floors), match.stock_now())


if __name__ == "__main__":
    unittest.main()
