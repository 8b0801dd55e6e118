"""Plain questions about things of any kind, which may stand where an error is named."""


def is_integer(thing):
    """Whether it is an integer: a flag is none."""
    return isinstance(thing, int) and not isinstance(thing, bool)


def is_number(thing, low, high):
    """Whether it is an integer from low to high."""
    return is_integer(thing) and low <= thing <= high


def is_lot(thing, many):
    """Whether it is an ascending tuple of unlike integers from 0 below many."""
    if not isinstance(thing, tuple):
        return False
    least = 0
    for item in thing:
        if not is_number(item, least, many - 1):
            return False
        least = item + 1
    return True
