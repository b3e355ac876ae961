"""In the midst of the work: the earliest right rest, what is due, and what may be done or left now."""

from livingclock.checks import check_tick, is_between, is_tuple_of
from livingclock.clocks import all_exchanges, check_clock, first_from, first_gap, least_needed, touch_phases
from livingclock.earliest import rows_of, settled_by
from livingclock.errors import BadStanding
from livingclock.pushes import push_table


def rest(clock, tick, standing):
    """Return the earliest right rest from a tick on, as a plan of the exchanges still to be done; None without one."""
    check_moment(clock, tick, standing)
    return rest_beside(clock, tick, standing, ())


def due(clock, tick, standing):
    """Return the ascending tuple of pairs: an exchange that an edition that stands needs, the tick it is due at."""
    check_moment(clock, tick, standing)
    return tuple(due_pairs(clock, tick, standing))


def safe(clock, tick, standing):
    """Return the ascending tuple of the wheels that may be exchanged at this tick so that there is a rest."""
    check_moment(clock, tick, standing)
    return safe_beside(clock, tick, standing, ())


def may_wait(clock, tick, standing):
    """Tell whether there is a rest without any exchange at this tick."""
    check_moment(clock, tick, standing)
    return has_later_rest(clock, tick, standing)


def check_moment(clock, tick, standing):
    """Raise the error of the first argument that is no clock, no tick or no standing."""
    check_clock(clock)
    check_tick(tick, 0)
    check_standing(clock, standing)


def check_standing(clock, standing):
    """Raise BadStanding for a value that is no standing of the clock."""
    if not is_standing(clock, standing):
        raise BadStanding("not a tuple of an edition for each wheel")


def is_standing(clock, value):
    """Tell whether a value is a standing of the clock."""
    if not is_tuple_of(value, len(clock[1])):
        return False
    return all([is_between(edition, 0, last) for edition, last in zip(value, clock[1])])


def undone(clock, standing):
    """Return the ascending list of the exchanges that are still to be done."""
    return [exchange for exchange in all_exchanges(clock) if exchange[1] > standing[exchange[0]]]


def due_pairs(clock, tick, standing):
    """Return what due does, as a list, for arguments that are known to be right."""
    pairs = []
    for exchange in undone(clock, standing):
        touches = touches_needing(clock, tick, standing, exchange)
        if touches:
            pairs.append((exchange, min(touches)))
    return pairs


def touches_needing(clock, tick, standing, exchange):
    """Return the list of the next touches of the exchange's wheel with each wheel whose edition needs the exchange."""
    wheel, edition = exchange
    touches = []
    for other, stands in enumerate(standing):
        phases = touch_phases(clock, wheel, other)
        if phases and least_needed(clock, other, stands, wheel) >= edition:
            touches.append(first_from(clock, phases, tick))
    return touches


def rest_beside(clock, tick, standing, busy):
    """Return what rest does, busy being the wheels that were exchanged at this tick and can't be so again."""
    numbers = Rests(clock).numbers_from(tick, standing, firsts_from(clock, tick, standing, busy))
    if numbers is None:
        return None
    return rows_of(clock, numbers)


def safe_beside(clock, tick, standing, busy):
    """Return what safe does, without the busy wheels, which were exchanged at this tick."""
    wheels = [wheel for wheel in range(len(standing)) if wheel not in busy]
    return tuple([wheel for wheel in wheels if is_safe(clock, tick, standing, wheel, busy)])


def has_later_rest(clock, tick, standing):
    """Return what may_wait does, for arguments that are known to be right."""
    firsts = firsts_from(clock, tick + 1, standing, ())
    return Rests(clock).numbers_from(tick, standing, firsts) is not None


def is_safe(clock, tick, standing, wheel, busy):
    """Tell whether a wheel may be exchanged by one edition at this tick so that there is a rest."""
    if standing[wheel] == clock[1][wheel] or tick % clock[0] not in clock[3][wheel]:
        return False
    return rest_beside(clock, tick, raised(standing, wheel), busy + (wheel,)) is not None


def raised(standing, wheel):
    """Return a standing with the next edition of a wheel."""
    return standing[:wheel] + (standing[wheel] + 1,) + standing[wheel + 1:]


def firsts_from(clock, tick, standing, busy):
    """Return a dict from each exchange still to be done to its wheel's first gap, behind the tick for busy wheels."""
    firsts = {}
    for exchange in undone(clock, standing):
        low = tick + 1 if exchange[0] in busy else tick
        firsts[exchange] = first_gap(clock, exchange[0], low)
    return firsts


class Rests:
    """The earliest rests of a clock, asked for at many moments."""

    def __init__(self, clock):
        self.clock = clock
        self.table = push_table(clock)
        touches = [(entry, touch_phases(clock, entry[0], entry[2])) for entry in clock[4]]
        self.needs = [(entry, phases) for entry, phases in touches if phases]

    def numbers_from(self, tick, standing, firsts):
        """Return a dict of the least numbers from the first ones on; None if there are none, or one is too late."""
        numbers = settled_by(self.table, self.clock[0], firsts)
        # The least numbers are at no exchange later than others: if they are too late, all are.
        if numbers is None or self.is_late(tick, standing, numbers):
            return None
        return numbers

    def is_late(self, tick, standing, numbers):
        """Tell whether an exchange comes, at its number, later than an edition that stands needs it."""
        for entry, phases in self.needs:
            wheel, edition, other, least = entry
            if standing[wheel] >= edition and standing[other] < least:
                if numbers[(other, least)] > first_from(self.clock, phases, tick):
                    return True
        return False
