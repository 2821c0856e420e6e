"""Runs by numbers in which None stands for all that is there ([23])."""

from noneorsome.errors import PlanError
from noneorsome.runs import Run
from noneorsome.stocks import Stock


def begun_at(world, state, stock):
    """Return a run that begins with the facts of a state and a stock."""
    return Run(world, [fact for fact in world.facts() if fact in state], stock)


def filled(outcome, amounts, stock):
    """Return the amounts with numbers in the places of None, where None may stand."""
    return {
        name: stock[name] if amount is None and outcome[name] == "take" else amount
        for name, amount in amounts.items()
    }


def can_step(world, run, step):
    """Do a step if it can be done, and return whether it was."""
    action, index, amounts = step
    if not isinstance(index, int):
        return False
    try:
        outcome = world.outcome_at(run.state_now(), action, index)
        gone = run.step(action, index, filled(outcome, amounts, run.stock_now()))
    except PlanError:
        return False
    return all([(amounts[pile] is None) == (pile in gone) for pile in world.taken_piles(outcome)])


def points_of(world, state, stock, steps):
    """Return the pairs of a state and a stock at the beginning and behind each step; none if it cannot be done."""
    run = begun_at(world, state, stock)
    if run.state_now() != state:
        return []
    points = [(state, run.stock_now())]
    for step in steps:
        if not can_step(world, run, step):
            return []
        points.append((run.state_now(), run.stock_now()))
    return points


def closes_ring(points, back):
    """Return whether the steps from `back` on can be repeated for ever."""
    if back is None or not 0 <= back < len(points) - 1:
        return False
    state, stock = points[back]
    last, rest = points[-1]
    return state == last and stock <= rest


def numbers_for(world, state, ways, back):
    """Return a stock and steps for a run through ways `(action, index, gone)`.

    Behind the last step each counter has at least the number that it had behind the first `back` ones, if each one
    that is taken from since then is also added to.
    """
    much = len(ways) + 1
    filled_names = [*state, *world.reserves()]
    stock = Stock({counter: much for counter in world.counters() if counter in filled_names})
    run = begun_at(world, state, stock)
    before = Stock()
    steps = []
    for at, (action, index, gone) in enumerate(ways):
        if at == back:
            before = run.stock_now()
        outcome = world.outcome_at(run.state_now(), action, index)
        amounts = amounts_for(world.counters(), outcome, gone, before, much)
        run.step(action, index, filled(outcome, amounts, run.stock_now()))
        steps.append((action, index, amounts))
    return stock, steps


def amounts_for(counters, outcome, gone, before, much):
    """Return amounts that are small where something is taken, and great enough where something is added."""
    taken = {counter: None if counter in gone else 1 for counter in counters if outcome[counter] == "take"}
    added = {counter: before[counter] + much for counter in counters if outcome[counter] == "add"}
    return {**taken, **added}
