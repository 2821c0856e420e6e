"""Counterplays played by numbers ([30])."""

from noneorsome.counterplays import Counterplay, counterplay_fault
from noneorsome.errors import BadCounterplay
from noneorsome.stocks import Stock
from noneorsome.walks import begun_at


class Match:
    """A counterplay that holds, begun with the floors of its first position."""

    def __init__(self, task, counterplay):
        fault = counterplay_fault(task, counterplay)
        if fault is not None:
            raise BadCounterplay(fault)
        self._world = task.base()
        self._counterplay = Counterplay(counterplay.rows())
        self._position = 0
        floors = {counter: counterplay.floor_at(0, counter) for counter in self._world.counters()}
        self._run = begun_at(self._world, counterplay.state_at(0), Stock(floors))

    def answer(self, action):
        """Do an action with the reply to it; return the index of the outcome and the amounts."""
        self._world.state_for(self.state_now(), action)
        index, gone, after = self._counterplay.reply_at(self._position, action)
        outcome = self._world.outcome_at(self.state_now(), action, index)
        amounts = self._amounts(outcome, gone, after)
        self._run.step(action, index, amounts)
        self._position = after
        return index, amounts

    def state_now(self):
        return self._run.state_now()

    def stock_now(self):
        return self._run.stock_now()

    def position_now(self):
        return self._position

    def steps_done(self):
        """Return the steps as tuples `(action, index, amounts)`."""
        return self._run.steps_done()

    def _amounts(self, outcome, gone, after):
        """Return amounts behind which the floors of the next position are there."""
        amounts = {}
        stock = self._run.stock_now()
        for counter in self._world.counters():
            if outcome[counter] == "take":
                amounts[counter] = stock[counter] if counter in gone else 1
            elif outcome[counter] == "add":
                amounts[counter] = max(1, self._counterplay.floor_at(after, counter))
        return amounts
