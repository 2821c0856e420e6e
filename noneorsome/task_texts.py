"""Texts of tasks ([43])."""

from noneorsome.actions import Action, outcomes_of
from noneorsome.condition_texts import read_condition
from noneorsome.errors import BadLine, PlanError
from noneorsome.names import check_name
from noneorsome.outcomes import Outcome
from noneorsome.tasks import Task
from noneorsome.world_checks import check_outcome, check_seen
from noneorsome.worlds import World

LISTS = ("facts", "piles", "reserves")
CHANGES = {"yes": True, "no": False, "add": "add", "take": "take", "empty": "empty"}


def write_task(task):
    """Return the text of a task."""
    world = task.base()
    lines = [
        " ".join(["facts", *world.facts()]), " ".join(["piles", *world.piles()]),
        " ".join(["reserves", *world.reserves()]), f"start {task.start}", f"goal {task.goal}",
    ]
    for name in world.actions():
        lines = [*lines, *lines_of_action(name, world[name])]
    return "\n".join(lines)


def lines_of_action(name, action):
    return [f"action {name}", f"need {action.need}", *[write_outcome(outcome) for outcome in outcomes_of(action)]]


def write_outcome(outcome):
    if len(outcome) == 0:
        return "outcome"
    changes = ", ".join([f"{name} {word_of(outcome[name])}" for name in outcome.names()])
    return f"outcome {changes}"


def word_of(change):
    return [word for word in CHANGES if CHANGES[word] == change][0]


def read_task(text):
    """Return the task of a text, or raise BadLine."""
    lines = text.split("\n")
    world = world_of(lines)
    start = condition_at(lines, 3, "start", world)
    goal = condition_at(lines, 4, "goal", world)
    at = 5
    while at < len(lines):
        at = add_action(world, lines, at)
    return Task(world, start, goal)


def world_of(lines):
    """Return the world of the first lines, which has no actions yet."""
    given = []
    for at, word in enumerate(LISTS):
        words = line_at(lines, at).split(" ")
        if words[0] != word:
            raise BadLine(at)
        given.append(words[1:])
        try:
            world = World(*given)
        except PlanError as why:
            raise BadLine(at) from why
    return world


def line_at(lines, at):
    """Return a line that must be there."""
    if at >= len(lines):
        raise BadLine(len(lines))
    return lines[at]


def rest_at(lines, at, word):
    """Return what follows the word with which a line must begin, and a space."""
    first, space, rest = line_at(lines, at).partition(" ")
    if first != word or space == "":
        raise BadLine(at)
    return rest


def condition_at(lines, at, word, world):
    """Return the condition that follows a word, with seen names of a world alone."""
    rest = rest_at(lines, at, word)
    try:
        condition = read_condition(rest)
        check_seen(condition, world.seen())
    except PlanError as why:
        raise BadLine(at) from why
    return condition


def add_action(world, lines, at):
    """Define the action whose lines begin at an index; return the index behind them."""
    name = action_name_at(world, lines, at)
    need = condition_at(lines, at + 1, "need", world)
    outcomes = [outcome_at(world, lines, at + 2)]
    end = at + 3
    while end < len(lines) and lines[end].split(" ")[0] != "action":
        outcomes.append(outcome_at(world, lines, end))
        end = end + 1
    try:
        world[name] = Action(need, outcomes)
    except PlanError as why:
        raise BadLine(end - 1) from why
    return end


def action_name_at(world, lines, at):
    """Return the name of an action that a world does not have yet."""
    name = rest_at(lines, at, "action")
    if name in world:
        raise BadLine(at)
    try:
        check_name(name)
    except PlanError as why:
        raise BadLine(at) from why
    return name


def outcome_at(world, lines, at):
    """Return the outcome of a line, which has to fit to a world."""
    changes = {}
    if line_at(lines, at) != "outcome":
        changes = changes_of(at, rest_at(lines, at, "outcome"))
    try:
        outcome = Outcome(changes)
        check_outcome(world, outcome)
    except PlanError as why:
        raise BadLine(at) from why
    return outcome


def changes_of(index, text):
    """Return the changes in the text behind the word of a line with an index."""
    changes = {}
    for part in text.split(", "):
        words = part.split(" ")
        if len(words) != 2 or words[0] in changes or words[1] not in CHANGES:
            raise BadLine(index)
        changes[words[0]] = CHANGES[words[1]]
    return changes
