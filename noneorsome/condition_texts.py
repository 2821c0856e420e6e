"""Reading the texts of conditions ([4])."""

from noneorsome.conditions import Condition
from noneorsome.errors import BadText
from noneorsome.names import is_letter, is_name

# How tightly the tokens bind that wait for what stands behind them.
BINDING = {"(": 0, "or": 1, "and": 2, "not": 3}
LOOSEST = 1


def read_condition(text):
    """Return the condition of a text, or raise BadText."""
    reading = Reading()
    for at, token in tokens_of(text):
        if not reading.accepts(token):
            raise BadText(at)
    if not reading.is_whole():
        raise BadText(len(text))
    return Condition(reading.all_words())


def tokens_of(text):
    """Return the tokens of a text, in their order, as pairs of an index and a token."""
    tokens = []
    at = 0
    while at < len(text):
        end = token_end(text, at)
        if text[at] != " ":
            tokens.append((at, text[at:end]))
        at = end
    return tokens


def token_end(text, at):
    """Return the index behind the token, or the space, that begins at an index."""
    end = at + 1
    if is_letter(text[at]):
        while end < len(text) and is_letter(text[end]):
            end = end + 1
    return end


class Reading:
    """Puts tokens into postfix order, one after another."""

    def __init__(self):
        self._words = []
        self._waiting = []
        self._operand_due = True

    def accepts(self, token):
        """Take the next token; return False if it cannot stand here."""
        if self._operand_due:
            return self._accepts_first(token)
        return self._accepts_behind(token)

    def is_whole(self):
        """Return whether the text may end here."""
        return not self._operand_due and "(" not in self._waiting

    def all_words(self):
        """Return the words of a whole condition in postfix order."""
        return [*self._words, *self._waiting[::-1]]

    def _accepts_first(self, token):
        """Take a token where an operand is due."""
        if token in ("not", "("):
            self._waiting.append(token)
            return True
        if token in ("always", "never") or is_name(token):
            self._words.append(token)
            self._operand_due = False
            return True
        return False

    def _accepts_behind(self, token):
        """Take a token that stands behind an operand."""
        if token in ("and", "or"):
            self._end_operators(BINDING[token])
            self._waiting.append(token)
            self._operand_due = True
            return True
        if token == ")" and "(" in self._waiting:
            self._end_operators(LOOSEST)
            self._waiting.pop()
            return True
        return False

    def _end_operators(self, least):
        """Write the waiting operators that bind at least so tightly, up to a parenthesis."""
        while len(self._waiting) > 0 and BINDING[self._waiting[-1]] >= least:
            self._words.append(self._waiting.pop())
