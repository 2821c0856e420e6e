"""Reading the texts of programs ([32])."""

from noneorsome.condition_texts import read_condition
from noneorsome.errors import BadLine, PlanError
from noneorsome.names import check_name
from noneorsome.programs import Program

# The words behind which a part of the program is due, indented further.
OPENING = ("while", "if", "else")


def read_program(text):
    """Return the program of a text, or raise BadLine."""
    written = text.split("\n")
    outline = Outline()
    lines = []
    for index, line in enumerate(written):
        depth, word, rest = parted_line(index, line)
        if not outline.accepts(depth, word):
            raise BadLine(index)
        lines.append((depth, word, operand_of(index, word, rest)))
    if outline.is_part_due():
        raise BadLine(len(written))
    return Program(without_empty(lines))


def parted_line(index, line):
    """Return how far a line is indented, its word, and what follows the word and a space, or None for nothing."""
    bare = line.lstrip(" ")
    spaces = len(line) - len(bare)
    if spaces % 2 == 1:
        raise BadLine(index)
    word, space, rest = bare.partition(" ")
    return spaces // 2, word, rest if space == " " else None


def operand_of(index, word, rest):
    """Return the action or the condition behind a word, or None for a word that stands alone."""
    if (rest is None) != (word in ("else", "pass")):
        raise BadLine(index)
    if rest is None:
        return None
    try:
        if word == "do":
            check_name(rest)
            return rest
        return read_condition(rest)
    except PlanError as why:
        raise BadLine(index) from why


def without_empty(lines):
    """Return lines without an empty second part of a choice, and without the one line of an empty program."""
    kept = []
    for depth, word, rest in lines:
        if word == "pass" and len(kept) > 0 and kept[-1][1] == "else":
            kept.pop()
        elif word != "pass" or depth > 0:
            kept.append((depth, word, rest))
    return kept


class Outline:
    """Tells of one line after another whether it may stand behind those ahead of it."""

    def __init__(self):
        # For each part that has not ended, from the outermost one on, the word of its last line, or "" for none yet.
        self._last = [""]

    def accepts(self, depth, word):
        """Take the depth and the word of the next line; return False if it cannot stand here."""
        if depth >= len(self._last) or (self.is_part_due() and depth + 1 < len(self._last)):
            return False
        if not may_follow(self._last[depth], word):
            return False
        self._last = [*self._last[:depth], word]
        if word in OPENING:
            self._last.append("")
        return True

    def is_part_due(self):
        """Return whether a part has begun and has no line yet."""
        return self._last[-1] == ""


def may_follow(last, word):
    """Return whether a line with a word may stand in a part behind the line with the last word."""
    if word == "else":
        return last == "if"
    if word == "pass":
        return last == ""
    return word in ("do", "while", "if") and last != "pass"
