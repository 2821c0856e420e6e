"""Changes of names ([6])."""


def is_change(value):
    # 1 and 0 equal True and False, and are no changes all the same.
    if isinstance(value, bool):
        return True
    return isinstance(value, str) and value in ("add", "take", "empty")


def fits_fact(change):
    return isinstance(change, bool)


def fits_pile(change):
    return change in ("add", "take", "empty")


def fits_reserve(change):
    return change in ("add", "take")
