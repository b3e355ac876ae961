"""One crew for several clocks: what can be exchanged when, and where the crew is best at each phase."""

from math import lcm

from livingclock.checks import is_between, is_tuple_of
from livingclock.clocks import MOST_PERIOD, check_clock
from livingclock.courses import standings_between
from livingclock.earliest import earliest
from livingclock.errors import BadDuty, BadNumber, TooMany
from livingclock.joinings import lengthened
from livingclock.mends import first_enough

MOST_CLOCKS = 3
MOST_DUTIES = 1000


def served(clocks, duty):
    """Return the tuple, for each clock, of its earliest right plan with the crew on a duty, None without one."""
    check_duty(clocks, duty)
    return tuple([plan_with(clock, len(duty), phases_of(duty, place)) for place, clock in enumerate(clocks)])


def served_by(clocks, duty):
    """Return the first tick behind all exchanges of what served tells, None if a clock has no plan."""
    check_duty(clocks, duty)
    return end_of_all(clocks, duty, {})


def best_duty(clocks):
    """Return the first of the duties without None by which all is done soonest, and when; None if none does it."""
    period = period_of(clocks)
    check_many_duties(len(clocks), period)
    known = {}
    best = None
    # Duties without None are ordered as standings of as many wheels as there are phases.
    for duty in standings_between((0,) * period, (len(clocks) - 1,) * period):
        end = end_of_all(clocks, duty, known)
        if end is not None and (best is None or end < best[1]):
            best = (duty, end)
    return best


def least_phases(clock):
    """Return the first of the shortest tuples of phases at which a crew must be at a clock; None without a plan."""
    check_clock(clock)
    period = clock[0]
    return first_enough(tuple(range(period)), lambda phases: plan_with(clock, period, phases) is not None)


def period_of(clocks):
    """Return the period of all clocks together; raise the error of what is wrong with them."""
    if not isinstance(clocks, tuple) or not 1 <= len(clocks) <= MOST_CLOCKS:
        raise BadNumber("clocks are a tuple of 1 to 3 clocks")
    for clock in clocks:
        check_clock(clock)
    period = 1
    for clock in clocks:
        period = lcm(period, clock[0])
    if period > MOST_PERIOD:
        raise TooMany(MOST_PERIOD)
    return period


def check_duty(clocks, duty):
    """Raise the error of the first argument that is wrong, BadDuty for one that isn't a place or None each phase."""
    if not is_tuple_of(duty, period_of(clocks)):
        raise BadDuty("a duty is a tuple of a place for each phase")
    if not all(place is None or is_between(place, 0, len(clocks) - 1) for place in duty):
        raise BadDuty("a place is None or that of a clock")


def check_many_duties(places, period):
    """Raise TooMany if there are too many duties without None."""
    many = 1
    for _ in range(period):
        many = many * places
    if many > MOST_DUTIES:
        raise TooMany(MOST_DUTIES)


def phases_of(duty, place):
    """Return the tuple of the phases at which a crew is at a place."""
    return tuple([phase for phase, there in enumerate(duty) if there == place])


def plan_with(clock, period, phases):
    """Return the earliest right plan of a clock if wheels are exchanged only at some phases of a longer round."""
    period, editions, touches, gaps, book = lengthened(clock, period)
    left = tuple([tuple([phase for phase in row if phase in phases]) for row in gaps])
    if any([last > 0 and not row for last, row in zip(editions, left)]):
        return None
    return earliest((period, editions, touches, left, book))


def end_of_all(clocks, duty, known):
    """Return what served_by does, known being a dict of what has been found out before."""
    ends = []
    for place, clock in enumerate(clocks):
        phases = phases_of(duty, place)
        if (place, phases) not in known:
            known[(place, phases)] = end_of(plan_with(clock, len(duty), phases))
        ends.append(known[(place, phases)])
    return None if None in ends else max(ends)


def end_of(plan):
    """Return the first tick behind all exchanges of a plan, None for None."""
    if plan is None:
        return None
    return max([tick + 1 for ticks in plan for tick in ticks], default=0)
