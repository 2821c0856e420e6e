"""Who wins in an arena, and how ([25], [28]).

A plan wins if some counter is taken from again and again and added to only finitely often: its number cannot fall for
ever. Otherwise the opponent wins. A plan needs no memory for that. The opponent has to take turns: for one counter
after another it sees to it that the counter is added to, or is not taken from any more.
"""

from noneorsome.arenas import forced, lowest, pulled, set_of, without_forced, without_pulled


class Stand:
    """How the opponent stays in an arena for ever: it has a turn for each counter that is taken from there."""

    def __init__(self, arena, turns):
        self.arena = arena
        self.turns = turns


class Turn:
    """How the opponent adds to a counter, or comes to where it need not be taken from any more.

    `answers` lead to either; where an action has none, the opponent is there, and keeps to the stand of the state.
    """

    def __init__(self):
        self.answers = {}
        self.inner = {}


def play(arena, counters):
    """Return the actions of a plan that wins where one can, and the stand of the opponent in all other states."""
    plan = {}
    ways, turns = first_win(arena, counters)
    while len(ways) > 0:
        bits, more = forced(arena, set_of(list(ways)), None)
        plan = {**plan, **ways, **more}
        arena = without_forced(arena, bits, None)
        ways, turns = first_win(arena, counters)
    return plan, Stand(arena, turns)


def first_win(arena, counters):
    """Return the actions of a plan that wins somewhere by using up one counter, or none and all turns against it."""
    turns = []
    for counter in counters:
        if is_taken(arena, counter):
            ways, turn = use_up(arena, counter, [other for other in counters if other != counter])
            if len(ways) > 0:
                return ways, []
            turns.append(turn)
    return {}, turns


def is_taken(arena, counter):
    return any([
        counter in taken
        for state in arena for groups in list(arena[state].values()) for _, taken, _, _ in groups
    ])


def use_up(arena, counter, others):
    """Return the actions of a plan that wins and never lets a counter be added to, or none and a turn against it.

    Where such a plan cannot force that the counter is taken from, it has to win by the other counters.
    """
    turn = Turn()
    lost = 0
    while True:
        bits, found = pulled(arena, lost, counter)
        for place in found:
            turn.answers[place] = found[place]
        arena = without_pulled(arena, bits, counter)
        near, ways = forced(arena, 0, counter)
        plan, stand = play(without_forced(arena, near, counter), others)
        if len(stand.arena) == 0:
            return {**ways, **plan}, turn
        for state in stand.arena:
            turn.inner[state] = stand
        lost = set_of(list(stand.arena))


def reply(stand, state, action, memory):
    """Return `(index, end, memory)`: what the opponent does in its stand, and what it keeps in mind then.

    The memory has the number of the turn that is taken in the stand, then of the one in the stand within that turn
    and so on; numbers that are missing at its end are 0.
    """
    if len(stand.turns) == 0:
        index, _, _, ends = stand.arena[state][action][0]
        return index, lowest(ends), ()
    number = memory[0] if len(memory) > 0 else 0
    turn = stand.turns[number]
    if (state, action) not in turn.answers:
        index, end, rest = reply(turn.inner[state], state, action, memory[1:])
        return index, end, packed(number, rest)
    index, end, added = turn.answers[(state, action)]
    if added:
        number = (number + 1) % len(stand.turns)
    return index, end, packed(number, ())


def packed(number, rest):
    """Return a memory without zeros at its end, so that equal memories look alike."""
    if number == 0 and len(rest) == 0:
        return ()
    return (number, *rest)
