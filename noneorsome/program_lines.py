"""Programs as lines, and the way that control takes through them ([32], [33]).

A line is a tuple `(depth, word, rest)`: how far it is indented, one of `do`, `while`, `if`, `else`, `pass`, and the
action or the condition that follows, or None. A program that does nothing has no line, and wherever another one has
an empty part it has the line `pass`.
"""

from noneorsome.errors import Idle


def indented(lines):
    """Return the lines of a part of a program."""
    if len(lines) == 0:
        return [(1, "pass", None)]
    return [(depth + 1, word, rest) for depth, word, rest in lines]


def write_line(line):
    depth, word, rest = line
    indent = "  " * depth
    if rest is None:
        return f"{indent}{word}"
    return f"{indent}{word} {rest}"


def write_lines(lines):
    if len(lines) == 0:
        return "pass"
    return "\n".join([write_line(line) for line in lines])


def lines_of_places(lines):
    """Return the indexes of the lines with an action."""
    return [at for at, (_, word, _) in enumerate(lines) if word == "do"]


def end_of_block(lines, at):
    """Return the index of the first line behind a line that is not indented more."""
    end = at + 1
    while end < len(lines) and lines[end][0] > lines[at][0]:
        end = end + 1
    return end


def else_of(lines, at):
    """Return the index of the `else` that belongs to an `if`, or None."""
    end = end_of_block(lines, at)
    if lines[at][1] == "if" and end < len(lines) and lines[end][:2] == (lines[at][0], "else"):
        return end
    return None


def holder_of(lines, at):
    """Return the index of the line of which an indented line is a part."""
    holder = at - 1
    while lines[holder][0] >= lines[at][0]:
        holder = holder - 1
    return holder


def line_behind(lines, at):
    """Return the line to which control comes when it is done with a line and its parts, or None at the end."""
    while True:
        last = else_of(lines, at)
        end = end_of_block(lines, at if last is None else last)
        if end < len(lines) and lines[end][0] == lines[at][0]:
            return end
        if lines[at][0] == 0:
            return None
        at = holder_of(lines, at)
        if lines[at][1] == "while":
            return at


def line_chosen(lines, at, state):
    """Return the line to which control comes from a line without an action, or None at the end."""
    _, word, condition = lines[at]
    if word == "pass":
        return line_behind(lines, at)
    if state in condition:
        return at + 1
    other = else_of(lines, at)
    if other is not None:
        return other + 1
    return line_behind(lines, at)


def next_place(lines, at, state):
    """Return the line with an action to which control comes from a line, itself included, or None at the end."""
    passed = set()
    while at is not None and lines[at][1] != "do":
        if at in passed:
            raise Idle(state)
        passed.add(at)
        at = line_chosen(lines, at, state)
    return at
