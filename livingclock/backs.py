"""Going back: the clock told backwards, ways on to some editions and back to some, and the point of no return."""

from livingclock.checks import check_tick
from livingclock.clocks import check_clock
from livingclock.courses import entries_at, is_fit, standings_between
from livingclock.errors import BadPlan, BadStanding, TooMany
from livingclock.lattices import check_before, plans
from livingclock.middle import Rests, check_moment, check_standing, firsts_from, rest_beside
from livingclock.plans import is_right, spells, standing_at

MOST_STANDINGS = 1000


def mirror(clock):
    """Return the clock whose editions are counted from the last one down."""
    check_clock(clock)
    return mirror_of(clock)


def backwards(clock):
    """Return the clock as it is seen when time runs the other way."""
    check_clock(clock)
    period = clock[0]
    touches = sorted([((-1 - phase) % period, wheel, other) for phase, wheel, other in clock[2]])
    gaps = tuple([tuple(sorted([-phase % period for phase in phases])) for phases in clock[3]])
    return (period, clock[1], tuple(touches), gaps, mirror_of(clock)[4])


def led_on(clock, tick, standing, goal):
    """Return the earliest ticks by which all wheels come to a goal, all that touch fitting; None without any."""
    check_moment(clock, tick, standing)
    check_standing(clock, goal)
    if not is_nowhere_above(standing, goal):
        raise BadStanding("the goal has an edition less than the standing's")
    return way_on(clock, tick, standing, goal)


def led_back(clock, tick, standing, goal):
    """Return the earliest ticks by which all wheels go back to a goal, all that touch fitting; None without any."""
    check_moment(clock, tick, standing)
    check_standing(clock, goal)
    if not is_nowhere_above(goal, standing):
        raise BadStanding("the goal has an edition above the standing's")
    return way_back(clock, tick, standing, goal)


def both_ways(clock, tick):
    """Return the ascending tuple of the standings from which there are ways on to the last and back to the first."""
    check_clock(clock)
    check_tick(tick, 0)
    many = 1
    for last in clock[1]:
        many = many * (last + 1)
    if many > MOST_STANDINGS:
        raise TooMany(MOST_STANDINGS)
    ahead, back = Ways(clock), Ways(mirror_of(clock))
    found = []
    for standing in standings_between((0,) * len(clock[1]), clock[1]):
        if ahead.is_open(tick, standing) and back.is_open(tick, mirrored(clock, standing)):
            found.append(standing)
    return tuple(found)


def no_return(clock, plan):
    """Return the first tick from which there is no way back to all first editions, None if there is no such tick."""
    if not is_right(clock, plan):
        raise BadPlan(None)
    return first_without(clock, Ways(mirror_of(clock)), plan)


def longest_open(clock, before):
    """Return the first of the right plans ahead whose point of no return is latest, and it; None without plans."""
    check_before(clock, before)
    back = Ways(mirror_of(clock))
    best = None
    for plan in plans(clock, before):
        tick = first_without(clock, back, plan)
        if tick is None:
            return (plan, None)
        if best is None or tick > best[1]:
            best = (plan, tick)
    return best


def mirror_of(clock):
    """Return what mirror does, for a value that is known to be a clock."""
    period, editions, touches, gaps, book = clock
    greatest = {}
    for wheel, edition, other, least in book:
        # What an entry says of editions that are too new says, the other way, which ones are too old.
        place = (other, editions[other] - least + 1, wheel)
        greatest[place] = max(greatest.get(place, 0), editions[wheel] - edition + 1)
    return (period, editions, touches, gaps, tuple(sorted([place + (most,) for place, most in greatest.items()])))


def mirrored(clock, standing):
    """Return the standing of the mirror of a clock that a standing of the clock is."""
    return tuple([last - edition for last, edition in zip(clock[1], standing)])


def is_nowhere_above(one, other):
    """Tell whether no edition of a standing is above that of another one."""
    return all([edition <= last for edition, last in zip(one, other)])


def way_on(clock, tick, standing, goal):
    """Return what led_on does, for arguments that are known to be right."""
    if not all([is_fit(entries_at(clock, phase), goal) for phase in range(clock[0])]):
        return None
    # To come to the goal is to come to the last editions of a clock that has no later ones; as the goal fits, what the
    # book tells of later ones says nothing of wheels that touch.
    return rest_beside((clock[0], goal) + clock[2:], tick, standing, ())


def way_back(clock, tick, standing, goal):
    """Return what led_back does, for arguments that are known to be right."""
    return way_on(mirror_of(clock), tick, mirrored(clock, standing), mirrored(clock, goal))


def first_without(clock, back, plan):
    """Return what no_return does for a right plan, back being the ways of the clock's mirror."""
    for first, end in spells(clock, plan):
        standing = mirrored(clock, standing_at(plan, first))
        # The editions of one tick are those with which the next one is begun.
        for tick in range(first + 1, end + 1):
            if not back.is_open(tick, standing):
                return tick
    return None


class Ways:
    """Whether there is a way on to the last editions of a clock, asked for at many moments."""

    def __init__(self, clock):
        self.clock = clock
        self.rests = Rests(clock)
        self.known = {}

    def is_open(self, tick, standing):
        """Tell whether there is a way on from a tick with a standing."""
        place = (tick % self.clock[0], standing)
        if place not in self.known:
            firsts = firsts_from(self.clock, place[0], standing, ())
            self.known[place] = self.rests.numbers_from(place[0], standing, firsts) is not None
        return self.known[place]
