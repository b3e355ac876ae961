"""Clocks: what they are, their exchanges, what an edition needs and which wheels touch."""

from livingclock.checks import check_tick, is_between, is_rising, is_tuple_of
from livingclock.errors import BadClock, BadEdition, BadWheel

MOST_PERIOD = 12
MOST_WHEELS = 12
MOST_EDITION = 4
MOST_EXCHANGES = 24


def exchanges(clock):
    """Return the ascending tuple of all exchanges (wheel, edition) of a clock."""
    check_clock(clock)
    return all_exchanges(clock)


def needed(clock, wheel, edition, other):
    """Return the least edition of another wheel that an edition of a wheel needs, 0 if the book tells none."""
    check_clock(clock)
    check_wheel(clock, wheel)
    if not is_between(edition, 0, clock[1][wheel]):
        raise BadEdition("the wheel has no such edition")
    check_wheel(clock, other)
    if wheel == other:
        raise BadWheel("the two wheels are one")
    return least_needed(clock, wheel, edition, other)


def touching(clock, tick):
    """Return the ascending tuple of the pairs of wheels that touch at a tick."""
    check_clock(clock)
    check_tick(tick, 0)
    return touching_at(clock, tick)


def check_clock(clock):
    """Raise BadClock for a value that is no clock."""
    part = wrong_part(clock)
    if part is not None:
        raise BadClock(part)


def check_wheel(clock, wheel):
    """Raise BadWheel for a value that is no wheel of the clock."""
    if not is_between(wheel, 0, len(clock[1]) - 1):
        raise BadWheel("the clock has no such wheel")


def wrong_part(clock):
    """Return the word for the first part that keeps a value from being a clock, None if it is one."""
    if not is_tuple_of(clock, 5):
        return "clock"
    period, editions, touches, gaps, book = clock
    if not is_between(period, 1, MOST_PERIOD):
        return "period"
    if not are_editions(editions):
        return "editions"
    if not are_touches(period, editions, touches):
        return "touches"
    if not are_gaps(period, editions, gaps):
        return "gaps"
    if not is_book(editions, book):
        return "book"
    return None


def are_editions(value):
    """Tell whether a value can be the editions of a clock."""
    if not isinstance(value, tuple) or not 1 <= len(value) <= MOST_WHEELS:
        return False
    return all(is_between(last, 0, MOST_EDITION) for last in value) and sum(value) <= MOST_EXCHANGES


def are_touches(period, editions, value):
    """Tell whether a value can be the touches of a clock of this period and these editions."""
    if not isinstance(value, tuple):
        return False
    return all(is_touch(period, editions, touch) for touch in value) and is_rising(value)


def is_touch(period, editions, value):
    """Tell whether a value is a triple (phase, i, j) of two wheels i < j."""
    if not is_tuple_of(value, 3):
        return False
    phase, wheel, other = value
    last = len(editions) - 1
    return is_between(phase, 0, period - 1) and is_between(wheel, 0, last) and is_between(other, wheel + 1, last)


def are_gaps(period, editions, value):
    """Tell whether a value can be the gaps of a clock of this period and these editions."""
    if not is_tuple_of(value, len(editions)):
        return False
    return all([are_wheel_gaps(period, last, phases) for last, phases in zip(editions, value)])


def are_wheel_gaps(period, last, value):
    """Tell whether a value can be the gaps of one wheel, last being its last edition."""
    if not isinstance(value, tuple) or (last > 0 and not value):
        return False
    return all(is_between(phase, 0, period - 1) for phase in value) and is_rising(value)


def is_book(editions, value):
    """Tell whether a value can be the book of a clock of these editions."""
    if not isinstance(value, tuple) or not all(is_entry(editions, entry) for entry in value):
        return False
    # Entries that rise in their first three parts are ascending, and no two are alike in these.
    return is_rising([entry[:3] for entry in value])


def is_entry(editions, value):
    """Tell whether a value is an entry (i, a, j, b) of a book."""
    if not is_tuple_of(value, 4):
        return False
    wheel, edition, other, least = value
    last = len(editions) - 1
    if not is_between(wheel, 0, last) or not is_between(other, 0, last) or wheel == other:
        return False
    return is_between(edition, 1, editions[wheel]) and is_between(least, 1, editions[other])


def all_exchanges(clock):
    """Return what exchanges does, for a value that is known to be a clock."""
    return tuple([(wheel, edition) for wheel, last in enumerate(clock[1]) for edition in range(1, last + 1)])


def is_exchange(clock, value):
    """Tell whether a value is an exchange of the clock."""
    if not is_tuple_of(value, 2) or not is_between(value[0], 0, len(clock[1]) - 1):
        return False
    return is_between(value[1], 1, clock[1][value[0]])


def least_needed(clock, wheel, edition, other):
    """Return what needed does, for arguments that are known to be right."""
    entries = [entry for entry in clock[4] if entry[0] == wheel and entry[2] == other]
    # A later edition keeps the needs of all editions before it.
    return max([entry[3] for entry in entries if entry[1] <= edition], default=0)


def touching_at(clock, tick):
    """Return what touching does, for arguments that are known to be right."""
    phase = tick % clock[0]
    return tuple(touch[1:] for touch in clock[2] if touch[0] == phase)


def touch_phases(clock, wheel, other):
    """Return the list of the phases at which two wheels touch, in whichever order they are told."""
    pair = (min(wheel, other), max(wheel, other))
    return [touch[0] for touch in clock[2] if touch[1:] == pair]


def first_from(clock, phases, low):
    """Return the least number from low on that is at one of the phases, of which there is at least one."""
    return low + min([(phase - low) % clock[0] for phase in phases])


def first_gap(clock, wheel, low):
    """Return the least number from low on at which a wheel may be exchanged."""
    return first_from(clock, clock[3][wheel], low)
