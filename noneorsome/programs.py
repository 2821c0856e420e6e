"""Programs ([31], [32], [33])."""

from noneorsome.errors import NoPlace
from noneorsome.names import check_name
from noneorsome.program_lines import indented, line_behind, lines_of_places, next_place, write_lines


class Program:
    """What to do in which order. It never changes."""

    def __init__(self, lines):
        """Make a program of its lines; callers use `skip`, `do`, `loop`, `choose`."""
        self._lines = list(lines)

    @staticmethod
    def skip():
        """Return the program that does nothing."""
        return Program([])

    @staticmethod
    def do(action):
        check_name(action)
        return Program([(0, "do", action)])

    @staticmethod
    def loop(condition, body):
        """Return the program that repeats another one as long as a condition holds."""
        return Program([(0, "while", condition), *indented(body._lines)])

    @staticmethod
    def choose(condition, body, other):
        """Return the program that does `body` if a condition holds, else `other`."""
        lines = [(0, "if", condition), *indented(body._lines)]
        if len(other._lines) > 0:
            lines = [*lines, (0, "else", None), *indented(other._lines)]
        return Program(lines)

    def places(self):
        """Return the names of the actions in the order of the text."""
        return [self._lines[at][2] for at in lines_of_places(self._lines)]

    def entry(self, state):
        """Return the first place to which the program comes, or None."""
        if len(self._lines) == 0:
            return None
        return self._place_at(next_place(self._lines, 0, state))

    def after(self, place, state):
        """Return the place to which the program comes behind the action at a place, or None."""
        found = lines_of_places(self._lines)
        if not 0 <= place < len(found):
            raise NoPlace(place)
        behind = line_behind(self._lines, found[place])
        return self._place_at(next_place(self._lines, behind, state))

    def __rshift__(self, other):
        if not isinstance(other, Program):
            return NotImplemented
        return Program([*self._lines, *other._lines])

    def __mul__(self, other):
        if not isinstance(other, int):
            return NotImplemented
        return Program(self._lines * other)

    def __rmul__(self, other):
        if not isinstance(other, int):
            return NotImplemented
        return Program(self._lines * other)

    def __eq__(self, other):
        if not isinstance(other, Program):
            return False
        return write_lines(self._lines) == write_lines(other._lines)

    def __str__(self):
        return str(write_lines(self._lines))

    def _place_at(self, at):
        """Return the place in a line, or None for none."""
        if at is None:
            return None
        return lines_of_places(self._lines).index(at)
