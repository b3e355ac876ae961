"""Clocks put together, told with another period, order or first tick, and taken apart."""

from math import lcm

from livingclock.checks import is_between, is_rising, is_tuple_of
from livingclock.clocks import MOST_EXCHANGES, MOST_PERIOD, MOST_WHEELS, check_clock, touch_phases
from livingclock.errors import BadNumber, BadOrder, TooMany
from livingclock.plans import check_plan

MOST_ROUNDS = 12
MOST_TURN = 10 ** 6


def together(one, other):
    """Return the clock of the wheels of both, the first one's ahead."""
    check_clock(one)
    check_clock(other)
    period = lcm(one[0], other[0])
    if period > MOST_PERIOD:
        raise TooMany(MOST_PERIOD)
    wheels = len(one[1])
    if wheels + len(other[1]) > MOST_WHEELS:
        raise TooMany(MOST_WHEELS)
    editions = one[1] + other[1]
    if sum(editions) > MOST_EXCHANGES:
        raise TooMany(MOST_EXCHANGES)
    first = lengthened(one, period)
    second = lengthened(other, period)
    touches = [(phase, wheel + wheels, twin + wheels) for phase, wheel, twin in second[2]]
    book = tuple((wheel + wheels, edition, twin + wheels, least) for wheel, edition, twin, least in second[4])
    return (period, editions, tuple(sorted(list(first[2]) + touches)), first[3] + second[3], first[4] + book)


def slowed(clock, many):
    """Return the same clock told with a period of so many rounds."""
    check_clock(clock)
    if not is_between(many, 1, MOST_ROUNDS):
        raise BadNumber("many is an integer from 1 to 12")
    if clock[0] * many > MOST_PERIOD:
        raise TooMany(MOST_PERIOD)
    return lengthened(clock, clock[0] * many)


def quickest(clock):
    """Return the same clock told with as short a period as can be."""
    check_clock(clock)
    for period in range(1, clock[0]):
        if clock[0] % period == 0:
            short = shortened(clock, period)
            if lengthened(short, clock[0]) == clock:
                return short
    return clock


def renamed(clock, order):
    """Return the clock with its wheels numbered anew, order being the tuple of the new number of each wheel."""
    check_clock(clock)
    check_order(clock, order)
    touches = [(phase, min(order[i], order[j]), max(order[i], order[j])) for phase, i, j in clock[2]]
    book = [(order[i], edition, order[j], least) for i, edition, j, least in clock[4]]
    editions = reordered(clock[1], order)
    return (clock[0], editions, tuple(sorted(touches)), reordered(clock[3], order), tuple(sorted(book)))


def renamed_plan(clock, plan, order):
    """Return a plan of a clock as a plan of the clock with its wheels numbered anew."""
    check_clock(clock)
    check_plan(clock, plan)
    check_order(clock, order)
    return reordered(plan, order)


def turned(clock, by):
    """Return the clock as it is told by one who calls tick by 0."""
    check_clock(clock)
    if not is_between(by, 0, MOST_TURN):
        raise BadNumber("by is an integer from 0 to 10 ** 6")
    period = clock[0]
    touches = sorted([((phase - by) % period, wheel, other) for phase, wheel, other in clock[2]])
    gaps = tuple([tuple(sorted([(phase - by) % period for phase in phases])) for phases in clock[3]])
    return (period, clock[1], tuple(touches), gaps, clock[4])


def parts(clock):
    """Return the tuple, by their first wheels, of the ascending tuples of wheels that hang together."""
    check_clock(clock)
    return parts_of(clock)


def part_of(clock, wheels):
    """Return the clock of some wheels alone, numbered anew in order."""
    check_clock(clock)
    if not are_wheels(clock, wheels):
        raise BadOrder("wheels is an ascending tuple of at least one wheel")
    return clock_of(clock, wheels)


def lengthened(clock, period):
    """Return the same clock told with a period that is some of its own."""
    starts = list(range(0, period, clock[0]))
    touches = tuple([(start + phase, wheel, other) for start in starts for phase, wheel, other in clock[2]])
    gaps = tuple([tuple([start + phase for start in starts for phase in phases]) for phases in clock[3]])
    return (period, clock[1], touches, gaps, clock[4])


def shortened(clock, period):
    """Return the clock that a clock is if all rounds of this period are like the first one."""
    touches = tuple(touch for touch in clock[2] if touch[0] < period)
    gaps = tuple([tuple([phase for phase in phases if phase < period]) for phases in clock[3]])
    return (period, clock[1], touches, gaps, clock[4])


def check_order(clock, order):
    """Raise BadOrder for a value that doesn't tell the new number of each wheel."""
    last = len(clock[1]) - 1
    if not is_tuple_of(order, last + 1) or not all(is_between(number, 0, last) for number in order):
        raise BadOrder("order is a tuple of the new number of each wheel")
    if len(set(order)) <= last:
        raise BadOrder("two wheels have the same new number")


def reordered(things, order):
    """Return the tuple with each of the things at the place that order tells for it."""
    moved = {number: thing for number, thing in zip(order, things)}
    return tuple([moved[number] for number in range(len(things))])


def parts_of(clock):
    """Return what parts does, for a value that is known to be a clock."""
    # Each wheel has the first wheel of its part; the parts of two wheels that are bound become one.
    heads = list(range(len(clock[1])))
    for one, other in bound_pairs(clock):
        low, high = min(heads[one], heads[other]), max(heads[one], heads[other])
        heads = [low if head == high else head for head in heads]
    found = {head: [] for head in sorted(set(heads))}
    for wheel, first in enumerate(heads):
        found[first].append(wheel)
    return tuple([tuple(wheels) for wheels in found.values()])


def bound_pairs(clock):
    """Return the list of the pairs of wheels of which the first needs the second and that touch at some phase."""
    return [(entry[0], entry[2]) for entry in clock[4] if touch_phases(clock, entry[0], entry[2])]


def are_wheels(clock, value):
    """Tell whether a value is an ascending tuple of at least one wheel of the clock."""
    if not isinstance(value, tuple) or not value:
        return False
    return all(is_between(wheel, 0, len(clock[1]) - 1) for wheel in value) and is_rising(value)


def clock_of(clock, wheels):
    """Return what part_of does, for arguments that are known to be right."""
    places = {wheel: place for place, wheel in enumerate(wheels)}
    touches = tuple((phase, places[i], places[j]) for phase, i, j in clock[2] if i in places and j in places)
    editions = tuple(clock[1][wheel] for wheel in wheels)
    gaps = tuple(clock[3][wheel] for wheel in wheels)
    book = tuple((places[i], a, places[j], b) for i, a, j, b in clock[4] if i in places and j in places)
    return (clock[0], editions, touches, gaps, book)
