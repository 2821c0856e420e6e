"""Steps by numbers ([15])."""

from noneorsome.errors import BadAmount, NoState, NothingToUndo
from noneorsome.states import are_some_of, in_order, state_behind
from noneorsome.stocks import Stock


def counted_stock(stock, counters):
    """Return a stock with the numbers of the counters alone."""
    return Stock({counter: stock[counter] for counter in counters})


def check_amounts(outcome, amounts, stock, counters):
    """Raise BadAmount for the first amount that is not as it must be."""
    due = [counter for counter in counters if outcome[counter] in ("take", "add")]
    for counter in due:
        if not fits_amount(outcome[counter], amounts.get(counter), stock[counter]):
            raise BadAmount(counter)
    for name in sorted(list(amounts), key=str):
        if name not in due:
            raise BadAmount(name)


def fits_amount(change, amount, present):
    """Return whether an amount, or None for a missing one, fits to a change of what is present."""
    if not isinstance(amount, int) or amount < 1:
        return False
    return change == "add" or amount <= present


def stock_behind(stock, outcome, amounts, counters):
    """Return the stock behind an outcome with amounts that fit."""
    taken = {counter: amounts[counter] for counter in counters if outcome[counter] == "take"}
    emptied = {counter: stock[counter] for counter in counters if outcome[counter] == "empty"}
    added = {counter: amounts[counter] for counter in counters if outcome[counter] == "add"}
    return stock - Stock({**taken, **emptied}) + Stock(added)


class Run:
    """A world with numbers, in which actions are done with chosen outcomes and amounts."""

    def __init__(self, world, facts, stock):
        if not are_some_of(facts, world.facts()):
            raise NoState(facts)
        self._world = world.copy()
        self._true = in_order(facts, world.facts())
        # A step puts a new stock here and leaves this one as it is, so that `undo` can put it back.
        self._stock = counted_stock(stock, world.counters())
        self._steps = []
        self._before = []

    def state_now(self):
        filled = [pile for pile in self._world.piles() if self._stock[pile] > 0]
        return (*self._true, *filled)

    def stock_now(self):
        return self._stock.copy()

    def step(self, action, index, amounts):
        """Do an action with an outcome; return the piles that are used up by it."""
        state = self.state_now()
        outcome = self._world.outcome_at(state, action, index)
        counters = self._world.counters()
        check_amounts(outcome, amounts, self._stock, counters)
        self._before.append((self._true, self._stock))
        self._steps.append((action, index, dict(amounts)))
        self._true = state_behind(self._true, outcome, (), self._world.facts())
        self._stock = stock_behind(self._stock, outcome, amounts, counters)
        taken = self._world.taken_piles(outcome)
        return tuple([pile for pile in taken if self._stock[pile] == 0])

    def steps_done(self):
        """Return the steps as tuples `(action, index, amounts)`."""
        return [(action, index, dict(amounts)) for action, index, amounts in self._steps]

    def undo(self):
        """Take back the last step."""
        if len(self._before) == 0:
            raise NothingToUndo()
        self._steps.pop()
        self._true, self._stock = self._before.pop()
