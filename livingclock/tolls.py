"""Tolls: what editions cost at each tick, and the courses that cost least."""

from livingclock.checks import is_between, is_tuple_of
from livingclock.clocks import check_clock
from livingclock.courses import (
    MOST_PAIRS, check_hands, check_many, entries_at, is_course, is_fit, standings_between, tries_at,
)
from livingclock.errors import BadTolls
from livingclock.middle import check_moment, check_standing, raised

MOST_TOLL = 1000
MOST_SHOWN = 400


def toll(clock, tolls, standing):
    """Return what all wheels cost at a tick at which they have these editions."""
    check_clock(clock)
    check_tolls(clock, tolls)
    check_standing(clock, standing)
    return toll_of(tolls, standing)


def cheapest_course(clock, tick, standing, hands, tolls):
    """Return a course of least tolls to the last editions, None without any course."""
    check_trip(clock, tick, standing, hands, tolls)
    fares = Fares(clock, hands, tolls, standing)
    if fares.least_from(tick, standing) is None:
        return None
    course = []
    while standing != clock[1]:
        deed, standing = fares.way_from(tick + len(course), standing)
        course.append(deed)
    return tuple(course)


def least_toll(clock, tick, standing, hands, tolls):
    """Return the sum of the tolls of a cheapest course, None without any course."""
    check_trip(clock, tick, standing, hands, tolls)
    return Fares(clock, hands, tolls, standing).least_from(tick, standing)


def shows_cheapest_course(clock, tick, standing, hands, tolls, value):
    """Tell whether a value is None where there is no course, or a cheapest course of at most 400 deeds."""
    check_trip(clock, tick, standing, hands, tolls)
    least = Fares(clock, hands, tolls, standing).least_from(tick, standing)
    if value is None:
        return least is None
    if not is_course(clock, tick, standing, hands, value) or len(value) > MOST_SHOWN:
        return False
    # A course that goes on when all have their last editions ends with a deed of no wheels.
    if value and not value[-1]:
        return False
    return tolls_of(tolls, standing, value) == least


def check_trip(clock, tick, standing, hands, tolls):
    """Raise the error of the first argument that is wrong, or TooMany for a clock that is too great."""
    check_moment(clock, tick, standing)
    check_hands(hands)
    check_tolls(clock, tolls)
    check_many(clock, MOST_PAIRS)


def check_tolls(clock, tolls):
    """Raise BadTolls for a value that doesn't tell what each edition of each wheel costs."""
    if not is_tuple_of(tolls, len(clock[1])):
        raise BadTolls("tolls are a tuple of a tuple for each wheel")
    for row, last in zip(tolls, clock[1]):
        if not is_tuple_of(row, last + 1) or not all(is_between(cost, 0, MOST_TOLL) for cost in row):
            raise BadTolls("each edition costs an integer from 0 to 1000")


def toll_of(tolls, standing):
    """Return what toll does, for arguments that are known to be right."""
    return sum([row[edition] for row, edition in zip(tolls, standing)])


def tolls_of(tolls, standing, course):
    """Return the sum of the tolls behind the deeds of a course."""
    total = 0
    for deed in course:
        for wheel in deed:
            standing = raised(standing, wheel)
        total += toll_of(tolls, standing)
    return total


class Fares:
    """The least tolls to the last editions, at each phase with each standing from a first one on."""

    def __init__(self, clock, hands, tolls, standing):
        self.clock = clock
        self.hands = hands
        self.tolls = tolls
        self.entries = [entries_at(clock, phase) for phase in range(clock[0])]
        # For each pair (phase, standing) with a course: what it costs, its first deed and the standing behind it.
        self.known = {(phase, clock[1]): (0, None, clock[1]) for phase in range(clock[0])}
        # Greater standings come first: all that can follow a standing is known but for the standing itself.
        for behind in standings_between(standing, clock[1])[::-1][1:]:
            self.fill(behind)

    def fill(self, standing):
        """Find the least tolls with a standing, when they are known for all greater ones."""
        period = self.clock[0]
        for phase in range(period):
            for deed, after in tries_at(self.clock, phase, standing, self.hands)[1:]:
                self.offer(phase, standing, deed, after)
        # Going twice round, each phase hears of the best deed of all phases for which it can wait.
        for phase in list(range(period))[::-1] * 2:
            self.offer(phase, standing, (), standing)

    def offer(self, phase, standing, deed, after):
        """Take a deed if it can be done and leads to less tolls than what is known."""
        behind = ((phase + 1) % self.clock[0], after)
        if behind not in self.known or not is_fit(self.entries[phase], after):
            return
        cost = self.known[behind][0] + toll_of(self.tolls, after)
        if (phase, standing) not in self.known or cost < self.known[(phase, standing)][0]:
            self.known[(phase, standing)] = (cost, deed, after)

    def least_from(self, tick, standing):
        """Return the least tolls from a tick on with a standing, None if there is no course."""
        place = (tick % self.clock[0], standing)
        return self.known[place][0] if place in self.known else None

    def way_from(self, tick, standing):
        """Return the first deed of a cheapest course, and the standing behind it."""
        return self.known[(tick % self.clock[0], standing)][1:]
