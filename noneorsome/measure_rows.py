"""Rows of measures: ranks at the even positions, counters at the odd ones ([19])."""

from noneorsome.names import is_name


def is_row(value):
    """Return whether a tuple or list has the form of a row."""
    if not isinstance(value, (tuple, list)) or len(value) % 2 == 0:
        return False
    return all([fits_position(at, part) for at, part in enumerate(value)])


def fits_position(at, part):
    if at % 2 == 1:
        return is_name(part)
    return is_rank(part)


def is_rank(part):
    # True and False are no integers here.
    return isinstance(part, int) and not isinstance(part, bool) and part >= 0


def falls(one, other, taken, added):
    """Return whether `other` is lower than `one` behind a result that takes and adds."""
    for at, (here, there) in enumerate(zip(one, other)):
        if at % 2 == 0:
            if here != there:
                return there < here
        elif here != there or here in added:
            return False
        elif here in taken:
            return True
    return False


def row_value(row, stock):
    """Return the ranks and the numbers of the counters, as a list."""
    return [part if at % 2 == 0 else stock[part] for at, part in enumerate(row)]
