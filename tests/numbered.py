"""Bad runs by plain dicts, and bad runs with one part changed: for holding [23] and [36] against another way to tell."""

from noneorsome.judging import BadRun


def points_by_hand(world, run):
    """The pairs of a state and its numbers at the beginning and behind each step, or None if it cannot be done."""
    facts = {name for name in run.state if name in world.facts()}
    numbers = {name: run.stock[name] for name in world.counters()}
    points = [(seen_now(world, facts, numbers), dict(numbers))]
    if points[0][0] != run.state:
        return None
    for action, index, amounts in run.steps:
        if action not in world.possible(points[-1][0]) or index is None or not 0 <= index < len(world[action]):
            return None
        outcome = world[action].outcome(index)
        if set(amounts) != {name for name in outcome.names() if outcome[name] in ("take", "add")}:
            return None
        for name in outcome.names():
            if outcome[name] == "empty":
                numbers[name] = 0
            elif outcome[name] == "add":
                if amounts[name] is None or amounts[name] < 1:
                    return None
                numbers[name] += amounts[name]
            elif outcome[name] == "take":
                amount = numbers[name] if amounts[name] is None else amounts[name]
                used_up = amount == numbers[name] and amounts[name] is not None and name in world.piles()
                if not 1 <= amount <= numbers[name] or used_up:
                    return None
                numbers[name] -= amount
            else:
                facts = facts | {name} if outcome[name] else facts - {name}
        points.append((seen_now(world, facts, numbers), dict(numbers)))
    return points


def seen_now(world, facts, numbers):
    return tuple(name for name in world.seen() if name in facts or numbers.get(name, 0) > 0)


def is_closed(points, back):
    """Whether the state is the same behind the last step as behind the first `back` ones, and no number is less."""
    if back is None or not 0 <= back < len(points) - 1:
        return False
    (state, before), (last, behind) = points[back], points[-1]
    return state == last and all(before[name] <= behind[name] for name in before)


def change_run(chance, world, run, reasons):
    """A run in which one part is another one."""
    parts = {"reason": run.reason, "state": run.state, "stock": run.stock, "steps": run.steps, "back": run.back}
    part = chance.choice(["reason", "state", "stock", "back", "fewer", "index", "action", "amount", "amount", "amount"])
    at = chance.randrange(len(run.steps)) if run.steps else 0
    if part == "reason":
        parts["reason"] = chance.choice(reasons)
    elif part == "state":
        parts["state"] = chance.choice(world.states())
    elif part == "back":
        parts["back"] = chance.choice([None, *range(-1, len(run.steps) + 2)])
    elif part == "stock":
        stock = run.stock.copy()
        if world.counters():
            stock[chance.choice(world.counters())] = chance.choice([0, 1, 2, 100])
        parts["stock"] = stock
    elif run.steps:
        action, index, amounts = run.steps[at]
        amounts = dict(amounts)
        if part == "index":
            index = chance.randint(-1, 4)
        elif part == "action":
            action = chance.choice(world.actions())
        elif part == "amount" and world.counters():
            amounts[chance.choice(world.counters())] = chance.choice([None, 0, 1, 2, 50])
        steps = list(run.steps)
        steps[at:at + 1] = [] if part == "fewer" else [(action, index, amounts)]
        parts["steps"] = steps
    return BadRun(**parts)
