"""Names ([1])."""

from noneorsome.errors import BadName

RESERVED = ("and", "or", "not", "always", "never")
LONGEST = 8


def is_letter(sign):
    """Return whether one character is a lowercase letter from a to z."""
    return "a" <= sign <= "z"


def is_name(value):
    if not isinstance(value, str) or value in RESERVED:
        return False
    return 1 <= len(value) <= LONGEST and all([is_letter(sign) for sign in value])


def check_name(name):
    if not is_name(name):
        raise BadName(name)
