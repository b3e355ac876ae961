"""Pushes: which exchange leans on which, and how late the one makes the other."""

from livingclock.checks import MOST, check_tick, is_tuple_of, is_whole
from livingclock.clocks import all_exchanges, check_clock, first_gap, is_exchange, least_needed, touch_phases
from livingclock.errors import BadExchange, NotLeaning
from livingclock.stairs import stair_at


def leaning(clock):
    """Return the ascending tuple of the pairs of exchanges of which the first leans on the second."""
    check_clock(clock)
    return tuple(leaning_pairs(clock))


def push(clock, exchange, other, tick):
    """Return the push of the other exchange on an exchange at a tick, which may be below 0."""
    check_clock(clock)
    check_exchange(clock, exchange)
    check_exchange(clock, other)
    check_tick(tick, -MOST)
    check_leaning(clock, exchange, other)
    return push_at(clock, exchange, other, tick)


def push_row(clock, exchange, other):
    """Return the step row of the push of the other exchange on an exchange."""
    check_clock(clock)
    check_exchange(clock, exchange)
    check_exchange(clock, other)
    check_leaning(clock, exchange, other)
    return row_of_push(clock, exchange, other)


def check_exchange(clock, exchange):
    """Raise BadExchange for a value that is no exchange of the clock."""
    if not is_exchange(clock, exchange):
        raise BadExchange("the clock has no such exchange")


def check_leaning(clock, exchange, other):
    """Raise NotLeaning if an exchange doesn't lean on the other."""
    if other not in leant_on(clock, exchange):
        raise NotLeaning("the first exchange doesn't lean on the second")


def leaning_pairs(clock):
    """Return the ascending list of the pairs of exchanges of which the first leans on the second."""
    return [(exchange, other) for exchange in all_exchanges(clock) for other in leant_on(clock, exchange)]


def leant_on(clock, exchange):
    """Return the ascending list of the exchanges on which an exchange leans: at most one for each wheel."""
    wheel, edition = exchange
    found = []
    for partner in range(len(clock[1])):
        if partner == wheel:
            least = edition - 1
        elif touch_phases(clock, wheel, partner):
            least = least_needed(clock, wheel, edition, partner)
        else:
            least = 0
        if least > 0:
            found.append((partner, least))
    return found


def push_at(clock, exchange, other, tick):
    """Return what push does, for arguments that are known to be right."""
    return gap_behind(clock, exchange[0], touch_phases(clock, exchange[0], other[0]), tick)


def row_of_push(clock, exchange, other):
    """Return what push_row does, for arguments that are known to be right."""
    phases = touch_phases(clock, exchange[0], other[0])
    return tuple([gap_behind(clock, exchange[0], phases, tick) for tick in range(clock[0])])


def gap_behind(clock, wheel, phases, tick):
    """Return the first gap of a wheel behind the last number below a tick that is at one of the phases.

    Exchanges of one wheel have no phases: there it is the first gap behind the tick itself.
    """
    last = tick
    if phases:
        last = tick - 1 - min([(tick - 1 - phase) % clock[0] for phase in phases])
    return first_gap(clock, wheel, last + 1)


def push_table(clock):
    """Return a dict from each exchange to the list of pairs: an exchange that leans on it, the row of the push."""
    table = {exchange: [] for exchange in all_exchanges(clock)}
    for exchange, other in leaning_pairs(clock):
        table[other].append((exchange, row_of_push(clock, exchange, other)))
    return table


def pushed_pairs(table, pair):
    """Return the list of the pairs (exchange, number) that can stand behind a pair in a chain or a ring."""
    exchange, number = pair
    return [(leaner, stair_at(row, number)) for leaner, row in table[exchange]]


def is_linked(clock, value):
    """Tell whether a tuple is of pairs (exchange, number), each behind the first being pushed by the one before it."""
    if not all(is_pair(clock, pair) for pair in value):
        return False
    table = push_table(clock)
    return all([pair in pushed_pairs(table, former) for former, pair in zip(value, value[1:])])


def is_pair(clock, value):
    """Tell whether a value is a pair (exchange, number)."""
    return is_tuple_of(value, 2) and is_exchange(clock, value[0]) and is_whole(value[1])
