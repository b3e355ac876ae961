"""Plans of exchanges: whether all wheels that touch fit, and two plans mixed."""

from livingclock.checks import check_tick, is_between, is_rising, is_tuple_of
from livingclock.clocks import check_clock, check_wheel, least_needed, touching_at
from livingclock.errors import BadChoice, BadPlan

MOST_PLANNED = 100000


def edition_at(clock, plan, wheel, tick):
    """Return the edition that a wheel has at a tick."""
    check_clock(clock)
    check_plan(clock, plan)
    check_wheel(clock, wheel)
    check_tick(tick, 0)
    return edition_of(plan[wheel], tick)


def wrong_at(clock, plan, tick):
    """Return the ascending tuple of the pairs of wheels that touch at a tick and don't fit."""
    check_clock(clock)
    check_plan(clock, plan)
    check_tick(tick, 0)
    return unfit_at(clock, standing_at(plan, tick), tick)


def first_wrong(clock, plan):
    """Return the first tick at which two wheels touch that don't fit, None if there is no such tick."""
    check_clock(clock)
    check_plan(clock, plan)
    # Ahead of the first exchange nothing is wrong: first editions need nothing.
    for first, end in spells(clock, plan):
        standing = standing_at(plan, first)
        for tick in range(first, end):
            if unfit_at(clock, standing, tick):
                return tick
    return None


def is_right(clock, plan):
    """Tell whether at each tick all wheels that touch fit."""
    return first_wrong(clock, plan) is None


def mixed(clock, one, other, later):
    """Return the plan with the later, or with the earlier, of the two ticks of each exchange."""
    check_clock(clock)
    check_plan(clock, one)
    check_plan(clock, other)
    if not isinstance(later, bool):
        raise BadChoice("later is True or False")
    return tuple([mixed_ticks(ticks, others, later) for ticks, others in zip(one, other)])


def mixed_ticks(ticks, others, later):
    """Return the later, or the earlier, ticks of one wheel."""
    if later:
        return tuple([max(tick, twin) for tick, twin in zip(ticks, others)])
    return tuple([min(tick, twin) for tick, twin in zip(ticks, others)])


def check_plan(clock, plan):
    """Raise BadPlan for a value that is no plan of the clock."""
    if not is_tuple_of(plan, len(clock[1])):
        raise BadPlan(None)
    for wheel, ticks in enumerate(plan):
        if not are_ticks(clock, wheel, ticks):
            raise BadPlan(wheel)


def is_plan(clock, value):
    """Tell whether a value is a plan of the clock."""
    if not is_tuple_of(value, len(clock[1])):
        return False
    return all([are_ticks(clock, wheel, ticks) for wheel, ticks in enumerate(value)])


def are_ticks(clock, wheel, value):
    """Tell whether a value can be the ticks of a wheel in a plan."""
    if not is_tuple_of(value, clock[1][wheel]) or not all(is_between(tick, 0, MOST_PLANNED) for tick in value):
        return False
    return all(tick % clock[0] in clock[3][wheel] for tick in value) and is_rising(value)


def edition_of(ticks, tick):
    """Return the edition at a tick of a wheel that is exchanged at these ticks."""
    return len([moment for moment in ticks if moment <= tick])


def standing_at(plan, tick):
    """Return the list of the editions that all wheels have at a tick."""
    return [edition_of(ticks, tick) for ticks in plan]


def spells(clock, plan):
    """Return the list of pairs: a tick at which something is exchanged, the end of the time to be looked at from it.

    Up to that end nothing else is exchanged; one round is enough, for it tells of all rounds.
    """
    moments = sorted(set([tick for ticks in plan for tick in ticks]))
    ends = moments[1:] + [moment + clock[0] for moment in moments[-1:]]
    return [(moment, min(end, moment + clock[0])) for moment, end in zip(moments, ends)]


def unfit_at(clock, standing, tick):
    """Return the tuple of the pairs of wheels that touch at a tick and don't fit with these editions."""
    return tuple(pair for pair in touching_at(clock, tick) if not do_fit(clock, standing, pair))


def do_fit(clock, standing, pair):
    """Tell whether the two wheels of a pair fit with these editions."""
    wheel, other = pair
    if standing[other] < least_needed(clock, wheel, standing[wheel], other):
        return False
    return standing[wheel] >= least_needed(clock, other, standing[other], wheel)
