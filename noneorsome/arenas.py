"""What is left of the game between a plan and its opponent ([25]).

The states have numbers, and a set of states is an integer, `bits`, with one bit for each of them. An arena is a dict
from states to dicts from actions to groups. A group `(index, taken, added, ends)` tells the shifts of an outcome and
the set of the states behind its results. The plan chooses an action, the opponent a group and a state of `ends`.
"""


def arena_of(world, goal, without):
    """Return the arena of a world with the states for which the goal does not hold, and the set of the others."""
    states = world.states()
    numbers = {state: number for number, state in enumerate(states)}
    arena = {
        numbers[state]: {
            action: groups_of(world, numbers, state, action)
            for action in world.possible(state) if action not in without
        }
        for state in states if state not in goal
    }
    return arena, set_of([numbers[state] for state in states if state in goal])


def groups_of(world, numbers, state, action):
    ends = {}
    for index, _, behind in world.results(state, action):
        ends[index] = ends.get(index, 0) | (1 << numbers[behind])
    return [(index, *world.shifts(state, action, index), ends[index]) for index in ends]


def set_of(states):
    bits = 0
    for state in states:
        bits = bits | (1 << state)
    return bits


def has(bits, state):
    return (bits >> state) & 1 == 1


def lowest(bits):
    """Return one state of a set that is not empty."""
    return (bits & -bits).bit_length() - 1


def forced(arena, bits, counter):
    """Return the set of the states from which a plan can force a step that takes from a counter or leads into a set
    of states, and that set as well; and its actions outside of the given set."""
    plan = {}
    fresh = forcing(arena, bits, counter)
    while len(fresh) > 0:
        plan = {**plan, **fresh}
        bits = bits | set_of(list(fresh))
        fresh = forcing(arena, bits, counter)
    return bits, plan


def forcing(arena, bits, counter):
    """Return the actions that force such a step at once, for the states outside of the set."""
    plan = {}
    for state in arena:
        good = [action for action, groups in arena[state].items() if is_forcing(groups, bits, counter)]
        if len(good) > 0 and not has(bits, state):
            plan[state] = good[0]
    return plan


def is_forcing(groups, bits, counter):
    return all([counter in taken or (ends & ~bits) == 0 for _, taken, _, ends in groups])


def pulled(arena, bits, counter):
    """Return the set of the states from which the opponent can force a step that adds to a counter or leads into a
    set of states, and that set as well; and its answers to all actions outside of the given set that have one."""
    answers = {}
    fresh = pulling(arena, bits, counter)
    while len(fresh) > 0:
        for state in fresh:
            note_answers(answers, arena, state, bits, counter)
        bits = bits | set_of(fresh)
        fresh = pulling(arena, bits, counter)
    for state in arena:
        if not has(bits, state):
            note_answers(answers, arena, state, bits, counter)
    return bits, answers


def pulling(arena, bits, counter):
    """Return the states outside of the set in which the opponent has an answer to every action."""
    return [
        state for state in arena
        if not has(bits, state)
        and all([answer_to(groups, bits, counter) is not None for groups in list(arena[state].values())])
    ]


def note_answers(answers, arena, state, bits, counter):
    for action, groups in arena[state].items():
        answer = answer_to(groups, bits, counter)
        if answer is not None:
            answers[(state, action)] = answer


def answer_to(groups, bits, counter):
    """Return an answer `(index, end, added)` that adds to a counter or leads into a set of states, or None."""
    for index, _, added, ends in groups:
        if counter in added:
            return index, lowest(ends), True
    for index, _, _, ends in groups:
        if ends & bits != 0:
            return index, lowest(ends & bits), False
    return None


def without_forced(arena, bits, counter):
    """Return what the opponent has left if it lets no plan have a step as in `forced`, whose set is `bits`."""
    return {
        state: {action: groups_left(groups, bits, counter) for action, groups in arena[state].items()}
        for state in arena if not has(bits, state)
    }


def groups_left(groups, bits, counter):
    return [
        (index, taken, added, ends & ~bits)
        for index, taken, added, ends in groups
        if counter not in taken and (ends & ~bits) != 0
    ]


def without_pulled(arena, bits, counter):
    """Return what a plan has left if it lets the opponent have no step as in `pulled`, whose set is `bits`."""
    return {
        state: {
            action: groups for action, groups in arena[state].items() if answer_to(groups, bits, counter) is None
        }
        for state in arena if not has(bits, state)
    }
