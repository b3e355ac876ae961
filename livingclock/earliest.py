"""The earliest plan, and the chains that show why no exchange can be earlier."""

from livingclock.clocks import all_exchanges, check_clock, first_gap
from livingclock.errors import NoPlan
from livingclock.pushes import check_exchange, is_linked, push_table, pushed_pairs


def earliest(clock):
    """Return the right plan in which each exchange is as early as in any, None if there is no right plan."""
    check_clock(clock)
    numbers = settled(clock, first_numbers(clock))
    if numbers is None:
        return None
    return rows_of(clock, numbers)


def why(clock, exchange):
    """Return a chain, as short as can be, that shows why an exchange can't be earlier."""
    return chain_to(clock, goal_of(clock, exchange))


def shows_why(clock, exchange, value):
    """Tell whether a value is what why may return."""
    goal = goal_of(clock, exchange)
    if not isinstance(value, tuple) or len(value) != len(chain_to(clock, goal)):
        return False
    if not is_linked(clock, value) or value[-1] != goal:
        return False
    beginner, number = value[0]
    return number == first_gap(clock, beginner[0], 0)


def goal_of(clock, exchange):
    """Return the pair of an exchange and its tick in the earliest plan."""
    check_clock(clock)
    check_exchange(clock, exchange)
    numbers = settled(clock, first_numbers(clock))
    if numbers is None:
        raise NoPlan("the clock has no right plan")
    return (exchange, numbers[exchange])


def first_numbers(clock):
    """Return a dict from each exchange to the first gap of its wheel from 0 on."""
    return {exchange: first_gap(clock, exchange[0], 0) for exchange in all_exchanges(clock)}


def settled(clock, firsts):
    """Return a dict of the least numbers, from the first ones on, that no push lifts; None if there are none.

    Firsts is a dict from some exchanges to gaps of their wheels; only pushes among these exchanges count.
    """
    return settled_by(push_table(clock), clock[0], firsts)


def settled_by(table, period, firsts):
    """Return what settled does, by the table of the pushes of a clock of this period."""
    # Least numbers leave no hole of two rounds, else all above it could come down a round: none is beyond this limit.
    limit = max(list(firsts.values()), default=0) + 2 * period * len(firsts)
    return lifted_numbers(table, firsts, list(firsts), limit)


def lifted_numbers(table, firsts, moved, limit):
    """Return a dict of the least numbers, from the first ones on, that no push lifts; None if one is at the limit.

    Moved is a list of exchanges: only pushes of these, and of those that they lift, can lift a number.
    """
    numbers = {exchange: firsts[exchange] for exchange in firsts}
    while moved:
        lifted = []
        for exchange in moved:
            for leaner, number in pushed_pairs(table, (exchange, numbers[exchange])):
                if leaner in numbers and number > numbers[leaner]:
                    if number >= limit:
                        return None
                    numbers[leaner] = number
                    lifted.append(leaner)
        moved = lifted
    return numbers


def rows_of(clock, numbers):
    """Return the tuple, for each wheel, of the ticks of those of its exchanges that have a number."""
    rows = [[] for _ in clock[1]]
    for exchange in all_exchanges(clock):
        if exchange in numbers:
            rows[exchange[0]].append(numbers[exchange])
    return tuple(tuple(ticks) for ticks in rows)


def chain_to(clock, goal):
    """Return a shortest chain to a pair of an exchange and its tick in the earliest plan."""
    table = push_table(clock)
    layer = list(first_numbers(clock).items())
    former = {pair: None for pair in layer}
    while goal not in former:
        reached = []
        for pair in layer:
            for pushed in pushed_pairs(table, pair):
                if pushed not in former:
                    former[pushed] = pair
                    reached.append(pushed)
        layer = reached
    return trail(former, goal)


def trail(former, goal):
    """Return the tuple of the pairs up to a goal, former being a dict from each pair to the one before it or None."""
    pairs = []
    pair = goal
    while pair is not None:
        pairs.append(pair)
        pair = former[pair]
    return tuple(pairs[::-1])
