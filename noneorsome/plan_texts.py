"""Texts of plans ([44])."""

from noneorsome.errors import BadLine, PlanError
from noneorsome.plans import Plan


def write_plan(plan):
    """Return the text of a plan, one line for each row."""
    return "\n".join([write_row(state, action) for state, action in plan.rows()])


def write_row(state, action):
    names = " ".join(state) if len(state) > 0 else "-"
    return f"{names}: {action}"


def read_plan(world, text):
    """Return the plan of a text, or raise BadLine."""
    plan = Plan(world)
    lines = [] if text == "" else text.split("\n")
    for index, line in enumerate(lines):
        add_row(plan, index, line)
    return plan


def add_row(plan, index, line):
    """Set the row of a line in a plan."""
    names, colon, action = line.partition(": ")
    state = [] if names == "-" else names.split(" ")
    if colon == "" or state in plan:
        raise BadLine(index)
    try:
        plan[state] = action
    except PlanError as why:
        raise BadLine(index) from why
