"""Step rows: stairs of whole numbers, one behind the other, done many times, and their pace."""

from math import gcd

from livingclock.checks import MOST, check_tick, is_between
from livingclock.errors import BadNumber, BadRow, NotAlike

MOST_LENGTH = 12


def row_at(row, tick):
    """Return the number of a stair at an integer."""
    check_row(row)
    check_tick(tick, -MOST)
    return stair_at(row, tick)


def behind(one, other):
    """Return the row of the stair that does other first and then one; its numbers may be beyond those of a step row."""
    check_row(one)
    check_row(other)
    check_alike(one, other)
    return composed(one, other)


def times(row, many):
    """Return the row of doing a stair so often."""
    check_row(row)
    if not is_between(many, 0, MOST):
        raise BadNumber("many is an integer from 0 to 10 ** 30")
    done = tuple(range(len(row)))
    doubled = row
    while many > 0:
        if many % 2 == 1:
            done = composed(doubled, done)
        doubled = composed(doubled, doubled)
        many = many // 2
    return done


def is_below(one, other):
    """Tell whether one stair is nowhere greater than the other."""
    check_row(one)
    check_row(other)
    check_alike(one, other)
    return all([number <= twin for number, twin in zip(one, other)])


def pace(row):
    """Return the ratio, in lowest terms, of how far a stair goes on in the mean each time it is done."""
    check_row(row)
    period = len(row)
    path = [0]
    first_seen = {}
    while path[-1] % period not in first_seen:
        first_seen[path[-1] % period] = len(path) - 1
        path.append(stair_at(row, path[-1]))
    # From here on the path repeats itself, some whole rounds further on or back.
    start = first_seen[path[-1] % period]
    way = path[-1] - path[start]
    steps = len(path) - 1 - start
    common = gcd(way, steps)
    return (way // common, steps // common)


def check_row(row):
    """Raise BadRow for a value that is no step row."""
    if not is_step_row(row):
        raise BadRow("no step row")


def check_alike(one, other):
    """Raise NotAlike for rows of unlike lengths."""
    if len(one) != len(other):
        raise NotAlike("the rows have unlike lengths")


def is_step_row(value):
    """Tell whether a value is a step row."""
    if not isinstance(value, tuple) or not 1 <= len(value) <= MOST_LENGTH:
        return False
    if not all(is_between(number, -MOST, MOST) for number in value):
        return False
    rising = all([number <= later for number, later in zip(value, value[1:])])
    return rising and value[-1] <= value[0] + len(value)


def stair_at(row, number):
    """Return the number of a stair at any integer."""
    rounds, place = divmod(number, len(row))
    return row[place] + rounds * len(row)


def composed(one, other):
    """Return what behind does, for arguments that are known to be right."""
    return tuple(stair_at(one, number) for number in other)
