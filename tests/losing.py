"""A task that is lost, and a counterplay for it, with replies of all kinds."""

from noneorsome.actions import Action
from noneorsome.conditions import Condition
from noneorsome.counterplays import Counterplay
from noneorsome.outcomes import Outcome
from noneorsome.tasks import Task
from noneorsome.worlds import World

LIT = Condition.of("lit")
HERE = Condition.of("here")
AWAY = Condition.of("away")


def yard():
    world = World(["lit"], ["here", "away"], ["luck"])
    world["stir"] = Action(HERE, [Outcome({"here": "take", "luck": "add"}), Outcome({"here": "add"})])
    world["burn"] = Action(HERE, [Outcome({"lit": True}), Outcome({"luck": "take"}), Outcome({"luck": "add"})])
    world["move"] = Action(HERE, [Outcome({"here": "take", "away": "add"})])
    world["clear"] = Action(AWAY, [Outcome({"away": "empty", "here": "add"})])
    world["quit"] = Action(LIT, [Outcome()])
    return world


def losing_task():
    return Task(yard(), HERE & ~AWAY, LIT)


def losing_rows():
    """The lamp is never lit: luck is taken where it is there, and else added to."""
    return [
        (("here",), {"here": 2, "luck": 1}, {"stir": (1, (), 0), "burn": (1, (), 1), "move": (0, ("here",), 2)}),
        (("here",), {"here": 2}, {"stir": (0, ("here",), 3), "burn": (2, (), 0), "move": (0, (), 4)}),
        (("away",), {"away": 1, "luck": 1}, {"clear": (0, (), 0)}),
        ((), {}, {}),
        (("here", "away"), {"here": 1, "away": 1}, {
            "stir": (1, (), 4), "burn": (2, (), 4), "move": (0, ("here",), 5), "clear": (0, (), 1),
        }),
        (("away",), {"away": 3, "luck": 0}, {"clear": (0, (), 1)}),
    ]


def changed_rows(position, state=None, floors=None, replies=None):
    """The rows with another state, and other floors and replies at a position; None takes a reply away."""
    rows = losing_rows()
    old_state, old_floors, old_replies = rows[position]
    new_replies = {**old_replies, **({} if replies is None else replies)}
    rows[position] = (
        old_state if state is None else state,
        {**old_floors, **({} if floors is None else floors)},
        {action: reply for action, reply in new_replies.items() if reply is not None},
    )
    return rows


def losing_play():
    return Counterplay(losing_rows())
