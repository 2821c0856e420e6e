"""Counterplays made of what an opponent does in its stand ([28])."""

from noneorsome.counterplays import Counterplay
from noneorsome.games import reply


def counterplay_from(world, stand, first):
    """Return a counterplay that begins in the state with the number `first` and holds."""
    order, replies = positions_from(stand, first)
    known = world.states()
    states = [known[number] for number, _ in order]
    floors = floors_of(world, states, replies)
    return Counterplay([
        (state, floors[at], replies_of(world, states, state, replies[at])) for at, state in enumerate(states)
    ])


def positions_from(stand, first):
    """Return the positions as pairs of a state and a memory, and for each one a dict from actions to pairs of an
    outcome and the position behind."""
    order = [(first, ())]
    places = {(first, ()): 0}
    replies = []
    while len(replies) < len(order):
        state, memory = order[len(replies)]
        found = {}
        for action in stand.arena[state]:
            index, end, rest = reply(stand, state, action, memory)
            if (end, rest) not in places:
                places[(end, rest)] = len(order)
                order.append((end, rest))
            found[action] = (index, places[(end, rest)])
        replies.append(found)
    return order, replies


def replies_of(world, states, state, found):
    """Return the replies at a state as a counterplay has them."""
    return {
        action: (index, gone_between(world, state, action, index, states[after]), after)
        for action, (index, after) in found.items()
    }


def gone_between(world, state, action, index, behind):
    """Return which piles are gone by an outcome that leads from one state to another."""
    results = world.results(state, action)
    return [gone for number, gone, end in results if number == index and end == behind][0]


def floors_of(world, states, replies):
    """Return for each position a dict with the least floors that let all replies hold."""
    links = [
        (here, after, world.shifts(states[here], action, index))
        for here, found in enumerate(replies) for action, (index, after) in found.items()
    ]
    floors = [{} for _ in states]
    for counter in world.counters():
        low = [1 if counter in state else 0 for state in states]
        raise_floors(low, drops_of(world, counter, states, links))
        for at, floor in enumerate(low):
            floors[at][counter] = floor
    return floors


def drops_of(world, counter, states, links):
    """Return tuples `(here, after, drop)`: the floor has to be that much lower at a position behind."""
    drops = []
    for here, after, (lessened, added) in links:
        used_up = counter in lessened and counter in world.piles() and counter not in states[after]
        if counter not in added and not used_up:
            drops.append((here, after, int(counter in lessened)))
    return drops


def raise_floors(low, drops):
    """Raise floors until all drops are there. No ring of drops takes anything, so this comes to an end."""
    rising = True
    while rising:
        rising = False
        for here, after, drop in drops:
            if low[here] < low[after] + drop:
                low[here] = low[after] + drop
                rising = True
