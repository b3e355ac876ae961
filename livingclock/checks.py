"""What counts as an integer, a tick and a rising tuple: what all other modules ask of their arguments."""

from livingclock.errors import BadTick

MOST = 10 ** 30


def is_whole(value):
    """Tell whether a value is an integer and no boolean."""
    return isinstance(value, int) and not isinstance(value, bool)


def is_between(value, low, high):
    """Tell whether a value is an integer from low to high."""
    return is_whole(value) and low <= value <= high


def is_tuple_of(value, many):
    """Tell whether a value is a tuple of so many things."""
    return isinstance(value, tuple) and len(value) == many


def is_rising(things):
    """Tell whether each of the things is less than the one behind it."""
    return all([things[place] < things[place + 1] for place in range(len(things) - 1)])


def check_tick(tick, least):
    """Raise BadTick for a value that is no integer from least to 10 ** 30."""
    if not is_between(tick, least, MOST):
        raise BadTick("a tick is an integer within the limits")
