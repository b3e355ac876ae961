"""Fleets: each wheel in several copies, which touch all at once or in turn; and wheels that are alike."""

from math import lcm

from livingclock.checks import is_between, is_tuple_of
from livingclock.clocks import MOST_EXCHANGES, MOST_PERIOD, MOST_WHEELS, check_clock
from livingclock.earliest import earliest
from livingclock.errors import BadChoice, BadNumber, TooMany
from livingclock.joinings import lengthened, renamed

MOST_COPIES = 6


def fleet(clock, copies, in_turn):
    """Return the clock whose wheels are all copies of the wheels of a clock."""
    check_clock(clock)
    if not is_tuple_of(copies, len(clock[1])) or not all(is_between(many, 1, MOST_COPIES) for many in copies):
        raise BadNumber("copies is a tuple of an integer from 1 to 6 for each wheel")
    if not isinstance(in_turn, bool):
        raise BadChoice("in_turn is True or False")
    rounds = all_rounds(copies) if in_turn else 1
    check_size(clock, copies, rounds)
    period, editions, touches, gaps, book = lengthened(clock, clock[0] * rounds)
    crowd = crowd_of(copies)
    if in_turn:
        met = [
            (phase, in_round(crowd[i], phase // clock[0]), in_round(crowd[j], phase // clock[0]))
            for phase, i, j in touches
        ]
    else:
        met = [(phase, one, other) for phase, i, j in touches for one in crowd[i] for other in crowd[j]]
    needs = [(one, a, other, b) for i, a, j, b in book for one in crowd[i] for other in crowd[j]]
    return (period, spread(editions, copies), tuple(sorted(met)), spread(gaps, copies), tuple(sorted(needs)))


def by_copies(clock, copies, in_turn):
    """Return, for each wheel, the tuple of its copies' ticks in the fleet's earliest plan, None without one."""
    plan = earliest(fleet(clock, copies, in_turn))
    if plan is None:
        return None
    return tuple([tuple([plan[place] for place in places]) for places in crowd_of(copies)])


def fleet_rounds(clock, copies, in_turn):
    """Return how many rounds of the clock, begun ones too, the fleet's earliest plan takes, None without one."""
    plan = earliest(fleet(clock, copies, in_turn))
    if plan is None:
        return None
    return max([tick // clock[0] + 1 for ticks in plan for tick in ticks], default=0)


def alike(clock):
    """Return the tuple, by their first wheels, of the ascending tuples of wheels that are alike."""
    check_clock(clock)
    groups = []
    for wheel in range(len(clock[1])):
        # Of wheels that are alike each one is alike to all others, so the first one of a group tells.
        friends = [group for group in groups if are_alike(clock, group[0], wheel)]
        if friends:
            friends[0].append(wheel)
        else:
            groups.append([wheel])
    return tuple([tuple(group) for group in groups])


def all_rounds(copies):
    """Return in how many rounds all copies of each wheel have their turns whole times."""
    rounds = 1
    for many in copies:
        rounds = lcm(rounds, many)
    return rounds


def check_size(clock, copies, rounds):
    """Raise TooMany if the fleet's period, its wheels or its exchanges are more than a clock can have."""
    if clock[0] * rounds > MOST_PERIOD:
        raise TooMany(MOST_PERIOD)
    if sum(copies) > MOST_WHEELS:
        raise TooMany(MOST_WHEELS)
    if sum([last * many for last, many in zip(clock[1], copies)]) > MOST_EXCHANGES:
        raise TooMany(MOST_EXCHANGES)


def crowd_of(copies):
    """Return the list, for each wheel, of the list of the fleet's wheels that are its copies."""
    found = []
    first = 0
    for many in copies:
        found.append(list(range(first, first + many)))
        first += many
    return found


def in_round(wheels, turn):
    """Return the one of the copies of a wheel that touches in a round of this number."""
    return wheels[turn % len(wheels)]


def spread(things, copies):
    """Return the tuple of the things of all wheels, each as often as the wheel has copies."""
    return tuple([thing for thing, many in zip(things, copies) for _ in range(many)])


def are_alike(clock, wheel, other):
    """Tell whether a clock with the numbers of two wheels exchanged is the same clock."""
    order = list(range(len(clock[1])))
    order[wheel], order[other] = other, wheel
    return renamed(clock, tuple(order)) == clock
