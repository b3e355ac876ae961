"""Clocks, wrong values and plain ways of trying out that the tests share."""

import itertools
import random
import unittest

from livingclock.errors import ClockError

THREE = (3, (1, 1, 1), ((0, 0, 1), (1, 1, 2), (2, 0, 2)), ((0,), (1,), (2,)), ((0, 1, 1, 1), (1, 1, 2, 1)))
STUCK = (2, (1, 1), ((0, 0, 1), (1, 0, 1)), ((0,), (1,)), ((0, 1, 1, 1), (1, 1, 0, 1)))
# Two wheels that need each other but may be exchanged at one tick.
PAIR = (2, (1, 1), ((0, 0, 1),), ((0, 1), (1,)), ((0, 1, 1, 1), (1, 1, 0, 1)))
LONE = (1, (0,), (), ((),), ())
# Three wheels that chase each other.
CHASE = (
    3,
    (1, 1, 1),
    tuple((phase, i, j) for phase in range(3) for i in range(3) for j in range(i + 1, 3)),
    ((0,), (1,), (2,)),
    ((0, 1, 1, 1), (1, 1, 2, 1), (2, 1, 0, 1)),
)
# Twelve wheels of two editions, each needing the next one's edition.
ROW = (
    12,
    (2,) * 12,
    tuple((wheel, wheel, wheel + 1) for wheel in range(11)),
    tuple((wheel,) for wheel in range(12)),
    tuple((wheel, edition, wheel + 1, edition) for wheel in range(11) for edition in (1, 2)),
)
# Editions that skip: of entries of one wheel the greatest so far holds.
SKIPS = (
    4,
    (4, 3),
    ((0, 0, 1), (2, 0, 1)),
    ((1, 3), (0, 1, 2)),
    ((0, 1, 1, 2), (0, 2, 1, 1), (0, 4, 1, 3), (1, 2, 0, 1)),
)
STILL = (12, (0, 0, 0), ((5, 0, 2), (11, 1, 2)), ((), (3, 4), ()), ())

JUNK = (
    None, True, False, -1, 10 ** 40, "", "ring", (), (None,), (True,), ((),), [], [0], {}, {"a": 1}, ((), ()),
    (None, None), (0, 0), ("a", "b"), [0, 1], (0, 1, 2, 3), ((0,), [1], (2,)), ([0], 1), ({}, {}, {}, {}, {}),
)


class Case(unittest.TestCase):
    """A test case that can ask for an error with its fields."""

    def fails(self, error, call, *arguments, **fields):
        """Ask that a call raises just this error, with these fields."""
        try:
            call(*arguments)
        except ClockError as caught:
            # The message is written only if it is needed: some arguments are too deep to be shown.
            if caught.__class__ is not error or vars(caught) != fields:
                self.fail(f"{call.__name__}{arguments} raised {caught!r}, not {error.__name__} with {fields}")
            for name, value in fields.items():
                self.assertIs(getattr(caught, name).__class__, value.__class__)
        else:
            self.fail(f"{call.__name__}{arguments} raised nothing, not {error.__name__} with {fields}")


def changed(values, place, value):
    """Return a tuple with another value at a place."""
    return values[:place] + (value,) + values[place + 1:]


def nested(depth):
    """Return a tuple in a tuple, so deep."""
    value = ()
    for _ in range(depth):
        value = (value,)
    return value


def some_clock(seed, most_period=4, most_wheels=3, most_edition=2):
    """Return a small clock, another one for each seed."""
    chance = random.Random(seed)
    period = chance.randint(1, most_period)
    wheels = chance.randint(1, most_wheels)
    editions = tuple(chance.randint(0, most_edition) for _ in range(wheels))
    pairs = [(i, j) for i in range(wheels) for j in range(i + 1, wheels)]
    dense = chance.choice((0.2, 0.5, 0.9, 1))
    touches = tuple((phase, i, j) for phase in range(period) for i, j in pairs if chance.random() < dense)
    most_gaps = chance.choice((1, 1, period))
    gaps = tuple(tuple(sorted(chance.sample(range(period), chance.randint(1, most_gaps)))) for _ in range(wheels))
    needs = chance.choice((0.2, 0.5, 0.9))
    book = tuple(
        (i, a, j, chance.randint(1, editions[j]))
        for i in range(wheels) for a in range(1, editions[i] + 1) for j in range(wheels)
        if i != j and editions[j] and chance.random() < needs
    )
    return (period, editions, touches, gaps, book)


def plain_exchanges(clock):
    """Return the list of all exchanges."""
    return [(wheel, edition) for wheel in range(len(clock[1])) for edition in range(1, clock[1][wheel] + 1)]


def plain_needed(clock, wheel, edition, other):
    """Return the least edition of another wheel that fits all that the book tells of an edition."""
    least = 0
    for i, a, j, b in clock[4]:
        if (i, j) == (wheel, other) and edition >= a and b > least:
            least = b
    return least


def plain_touch(clock, wheel, other, tick):
    """Tell whether two wheels touch at a tick."""
    return (tick % clock[0], min(wheel, other), max(wheel, other)) in clock[2]


def plain_unfit(clock, standing, tick):
    """Return the list of the pairs that touch at a tick and don't fit with these editions."""
    found = []
    for i in range(len(standing)):
        for j in range(i + 1, len(standing)):
            if plain_touch(clock, i, j, tick):
                if plain_needed(clock, i, standing[i], j) > standing[j]:
                    found.append((i, j))
                elif plain_needed(clock, j, standing[j], i) > standing[i]:
                    found.append((i, j))
    return found


def plain_standing(plan, tick):
    """Return the editions at a tick."""
    return tuple(sum(1 for moment in ticks if moment <= tick) for ticks in plan)


def plain_first_wrong(clock, plan):
    """Go through all ticks up to a round behind the last exchange."""
    last = max([tick for ticks in plan for tick in ticks], default=0)
    for tick in range(last + clock[0] + 1):
        if plain_unfit(clock, plain_standing(plan, tick), tick):
            return tick
    return None


def plain_plans(clock, before):
    """Return the ascending list of the right plans ahead of a tick, by trying all; None if there are many to try."""
    rows, many = [], 1
    for last, phases in zip(clock[1], clock[3]):
        able = [tick for tick in range(before) if tick % clock[0] in phases]
        rows.append(list(itertools.combinations(able, last)))
        many *= len(rows[-1])
    if many > 3000:
        return None
    return [plan for plan in itertools.product(*rows) if plain_first_wrong(clock, plan) is None]


def nowhere_later(one, other):
    """Tell whether no exchange of a plan is later than that of another one."""
    return all(tick <= twin for ticks, twins in zip(one, other) for tick, twin in zip(ticks, twins))


def plain_leans(clock, u, w):
    """Tell whether an exchange leans on another one."""
    if u[0] == w[0]:
        return u[1] == w[1] + 1
    touch = any(plain_touch(clock, u[0], w[0], phase) for phase in range(clock[0]))
    return touch and plain_needed(clock, u[0], u[1], w[0]) == w[1]


def plain_push(clock, u, w, tick):
    """Return the push by trying number after number."""
    number = tick - 3 * clock[0]
    while True:
        ready = number % clock[0] in clock[3][u[0]]
        if u[0] == w[0]:
            ready = ready and number > tick
        else:
            touches = [c for c in range(tick - 3 * clock[0], tick) if plain_touch(clock, u[0], w[0], c)]
            ready = ready and all(number > c for c in touches)
        if ready:
            return number
        number += 1


def plain_steps(clock, pair):
    """Return the list of the pairs that one pair pushes."""
    w, number = pair
    return [(u, plain_push(clock, u, w, number)) for u in plain_exchanges(clock) if plain_leans(clock, u, w)]


def deeds(clock, tick, standing):
    """Return the list of pairs: a tuple of wheels that can be exchanged at a tick, the standing behind them."""
    free = [
        wheel for wheel in range(len(standing))
        if standing[wheel] < clock[1][wheel] and tick % clock[0] in clock[3][wheel]
    ]
    found = []
    for many in range(len(free) + 1):
        for wheels in itertools.combinations(free, many):
            after = tuple(standing[wheel] + (wheel in wheels) for wheel in range(len(standing)))
            if not plain_unfit(clock, after, tick):
                found.append((wheels, after))
    return found


def all_standings(clock):
    """Return the list of all standings of a clock."""
    return list(itertools.product(*[range(last + 1) for last in clock[1]]))


def good_states(clock):
    """Return the set of the pairs (phase, standing) from which all wheels can come to their last editions."""
    standings = all_standings(clock)
    good = {(phase, clock[1]) for phase in range(clock[0])}
    grown = True
    while grown:
        grown = False
        for phase in range(clock[0]):
            for standing in standings:
                if (phase, standing) not in good:
                    later = (phase + 1) % clock[0]
                    if any((later, after) in good for _, after in deeds(clock, phase, standing)):
                        good.add((phase, standing))
                        grown = True
    return good


def earliest_ways(clock, tick, standing, good, busy=()):
    """Return, for each wheel, the earliest tick of each exchange to be done, each over all ways of going on.

    Busy wheels are not exchanged at the first tick.
    """
    firsts = {}
    layer = {standing}
    now = tick
    while now == tick or not all(exchange in firsts for exchange in still_undone(clock, standing)):
        behind = set()
        for before in layer:
            for wheels, after in deeds(clock, now, before):
                barred = now == tick and any(wheel in busy for wheel in wheels)
                if ((now + 1) % clock[0], after) in good and not barred:
                    behind.add(after)
        if not behind:
            return None
        for after in behind:
            for exchange in still_undone(clock, standing):
                if after[exchange[0]] >= exchange[1]:
                    firsts.setdefault(exchange, now)
        layer = behind
        now += 1
    return tuple(
        tuple(firsts[(wheel, edition)] for edition in range(standing[wheel] + 1, clock[1][wheel] + 1))
        for wheel in range(len(standing))
    )


def still_undone(clock, standing):
    """Return the list of the exchanges that are still to be done."""
    return [exchange for exchange in plain_exchanges(clock) if exchange[1] > standing[exchange[0]]]
