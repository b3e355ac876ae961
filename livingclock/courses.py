"""Courses: what can be done with so many hands, tick by tick, and the shortest way to the last editions."""

from heapq import heappop, heappush

from livingclock.checks import is_between, is_rising
from livingclock.clocks import check_clock
from livingclock.errors import BadNumber, BadPhase, TooMany
from livingclock.middle import Rests, check_moment, check_standing, firsts_from, raised, rest_beside

MOST_HANDS = 12
MOST_PAIRS = 4000


def next_standings(clock, phase, standing, hands):
    """Return the ascending tuple of the standings behind a deed of at most so many wheels at a tick of a phase."""
    check_clock(clock)
    check_phase(clock, phase)
    check_standing(clock, standing)
    check_hands(hands)
    return tuple(sorted([after for _, after in deeds_at(clock, phase, standing, hands)]))


def shortest(clock, tick, standing, hands):
    """Return a course of as few deeds as can be to the last editions, None if there is none."""
    check_moment(clock, tick, standing)
    check_hands(hands)
    return shortest_course(clock, tick, standing, hands)


def shows_shortest(clock, tick, standing, hands, value):
    """Tell whether a value is what shortest may return."""
    check_moment(clock, tick, standing)
    check_hands(hands)
    if value is not None and not is_course(clock, tick, standing, hands, value):
        return False
    course = shortest_course(clock, tick, standing, hands)
    if course is None or value is None:
        return course == value
    return len(course) == len(value)


def standings(clock, hands):
    """Return the ascending tuple of the pairs (phase, standing) to which deeds of so many hands can lead."""
    check_clock(clock)
    check_hands(hands)
    check_many(clock, MOST_PAIRS)
    links = {pair: followers(clock, pair, hands) for pair in all_pairs(clock)}
    return tuple(sorted(all_from([(0, (0,) * len(clock[1]))], links)))


def ending(clock, hands):
    """Return the ascending tuple of all pairs (phase, standing) from which there is a course to the last editions."""
    check_clock(clock)
    check_hands(hands)
    check_many(clock, MOST_PAIRS)
    pairs = all_pairs(clock)
    leaders = {pair: [] for pair in pairs}
    for pair in pairs:
        for follower in followers(clock, pair, hands):
            leaders[follower].append(pair)
    return tuple(sorted(all_from([(phase, clock[1]) for phase in range(clock[0])], leaders)))


def check_phase(clock, phase):
    """Raise BadPhase for a value that is no phase of the clock."""
    if not is_between(phase, 0, clock[0] - 1):
        raise BadPhase("the clock has no such phase")


def check_hands(hands):
    """Raise BadNumber for a value that is no number of hands."""
    if not is_between(hands, 0, MOST_HANDS):
        raise BadNumber("hands is an integer from 0 to 12")


def check_many(clock, most):
    """Raise TooMany if the clock has more than so many pairs (phase, standing)."""
    if not is_within(clock, most):
        raise TooMany(most)


def is_within(clock, most):
    """Tell whether the clock has at most so many pairs (phase, standing)."""
    many = clock[0]
    for last in clock[1]:
        many = many * (last + 1)
    return many <= most


def all_pairs(clock):
    """Return the ascending list of all pairs (phase, standing) of a clock."""
    found = standings_between((0,) * len(clock[1]), clock[1])
    return [(phase, standing) for phase in range(clock[0]) for standing in found]


def standings_between(low, high):
    """Return the ascending list of the standings that have no edition less than a low one's or above a high one's."""
    found = [()]
    for least, last in zip(low, high):
        found = [standing + (edition,) for standing in found for edition in range(least, last + 1)]
    return found


def all_from(starts, links):
    """Return the list of all pairs to which links lead, links being a dict from each pair to a list of pairs."""
    seen = {pair: True for pair in starts}
    layer = starts
    while layer:
        reached = []
        for pair in layer:
            for other in links[pair]:
                if other not in seen:
                    seen[other] = True
                    reached.append(other)
        layer = reached
    return list(seen)


def followers(clock, pair, hands):
    """Return the list of the pairs (phase, standing) to which a pair can lead at the next tick."""
    phase, standing = pair
    later = (phase + 1) % clock[0]
    return [(later, after) for _, after in deeds_at(clock, phase, standing, hands)]


def deeds_at(clock, phase, standing, hands):
    """Return the list of pairs: a deed of at most so many wheels at a phase, the standing behind it."""
    entries = entries_at(clock, phase)
    return [pair for pair in tries_at(clock, phase, standing, hands) if is_fit(entries, pair[1])]


def tries_at(clock, phase, standing, hands):
    """Return the list of pairs like those of deeds_at, whether wheels that touch then fit or not."""
    pairs = [((), standing)]
    for wheel, phases in enumerate(clock[3]):
        if phase in phases and standing[wheel] < clock[1][wheel]:
            more = [(deed + (wheel,), raised(after, wheel)) for deed, after in pairs if len(deed) < hands]
            pairs = pairs + more
    return pairs


def entries_at(clock, phase):
    """Return the list of the book's entries of wheels that touch at a phase."""
    pairs = [touch[1:] for touch in clock[2] if touch[0] == phase]
    return [entry for entry in clock[4] if (entry[0], entry[2]) in pairs or (entry[2], entry[0]) in pairs]


def is_fit(entries, standing):
    """Tell whether a standing has all that the entries ask for."""
    return all([standing[wheel] < edition or standing[other] >= least for wheel, edition, other, least in entries])


def is_course(clock, tick, standing, hands, value):
    """Tell whether a value is a course of so many hands to the last editions."""
    if not isinstance(value, tuple):
        return False
    for place, deed in enumerate(value):
        phase = (tick + place) % clock[0]
        if not is_deed(clock, phase, standing, deed) or len(deed) > hands:
            return False
        for wheel in deed:
            standing = raised(standing, wheel)
        if not is_fit(entries_at(clock, phase), standing):
            return False
    return standing == clock[1]


def is_deed(clock, phase, standing, value):
    """Tell whether a value is an ascending tuple of wheels that can be exchanged at a phase."""
    if not isinstance(value, tuple) or not all(is_between(wheel, 0, len(standing) - 1) for wheel in value):
        return False
    able = all([phase in clock[3][wheel] and standing[wheel] < clock[1][wheel] for wheel in value])
    return able and is_rising(value)


def shortest_course(clock, tick, standing, hands):
    """Return what shortest does, for arguments that are known to be right."""
    rows = rest_beside(clock, tick, standing, ())
    if rows is None:
        return None
    course = course_of(rows, tick)
    # No course ends ahead of the last tick of the earliest rest.
    if all([len(deed) <= hands for deed in course]):
        return course
    if hands == 0:
        return None
    return CourseSearch(clock, tick, hands).course_from(standing)


def course_of(rows, tick):
    """Return the course, from a tick on, in which wheels are exchanged at the ticks that a rest tells."""
    end = max([ticks[-1] + 1 for ticks in rows if ticks], default=tick)
    return tuple([
        tuple([wheel for wheel, ticks in enumerate(rows) if moment in ticks]) for moment in range(tick, end)
    ])


class CourseSearch:
    """The search for a shortest course: the moment that may lead to the earliest end is always tried next."""

    def __init__(self, clock, tick, hands):
        self.clock = clock
        self.first_tick = tick
        self.hands = hands
        self.rests = Rests(clock)
        self.entries = [entries_at(clock, phase) for phase in range(clock[0])]
        self.groups = lots_of(clock)
        self.former = {}
        self.queue = []

    def course_from(self, standing):
        """Return a shortest course from a standing, None if there is none."""
        self.note(0, standing, None)
        while self.queue:
            _, minus, reached = heappop(self.queue)
            if reached == self.clock[1]:
                return self.course_to(-minus, reached)
            # A moment to which a shorter way was found later stands twice in the queue.
            if self.former[self.place_of(-minus, reached)][0] == -minus:
                self.widen(-minus, reached)
        return None

    def place_of(self, many, standing):
        """Return the standing behind so many deeds, with what tells the phase."""
        return (many % self.clock[0], standing)

    def note(self, many, standing, former):
        """Keep the moment behind so many deeds, and the deed before it, to be tried later, if it is worth it."""
        place = self.place_of(many, standing)
        if place in self.former and self.former[place][0] <= many:
            return
        left = self.least_left(self.first_tick + many, standing)
        if left is not None:
            self.former[place] = (many, former)
            heappush(self.queue, (many + left, -many, standing))

    def widen(self, many, standing):
        """Note all moments that are a deed further on than the one behind so many deeds."""
        phase = (self.first_tick + many) % self.clock[0]
        covered = {}
        for deed, after in self.greatest_first(phase, standing):
            # From a standing that fits at all phases, all can be done that can be done with less done.
            less = any([raised(after, wheel) in covered for wheel in range(len(after))])
            if less or self.fits_at_all(after):
                covered[after] = True
            if not less and is_fit(self.entries[phase], after):
                self.note(many + 1, after, (self.place_of(many, standing), deed))

    def greatest_first(self, phase, standing):
        """Return the list of the deeds to be tried, with the standings behind them, those of most wheels first."""
        tries = tries_at(self.clock, phase, standing, self.hands)
        return sorted(tries, key=lambda pair: -len(pair[0]))

    def fits_at_all(self, standing):
        """Tell whether all wheels that touch at any phase fit."""
        return all([is_fit(entries, standing) for entries in self.entries])

    def course_to(self, many, standing):
        """Return the course that leads to the standing behind so many deeds."""
        deeds = []
        former = self.former[self.place_of(many, standing)][1]
        while former is not None:
            place, deed = former
            deeds.append(deed)
            former = self.former[place][1]
        return tuple(deeds[::-1])

    def least_left(self, tick, standing):
        """Return a number of deeds that is needed from a tick on at least, None if there is no rest."""
        firsts = firsts_from(self.clock, tick, standing, ())
        numbers = self.rests.numbers_from(tick, standing, firsts)
        if numbers is None:
            return None
        end = max(list(numbers.values()), default=tick - 1) + 1
        return max(end - tick, self.least_by_hands(tick % self.clock[0], standing))

    def least_by_hands(self, phase, standing):
        """Return how many deeds the hands need at least from a phase on, if all wheels always fitted."""
        return max([self.least_for(lot, phase, standing) for lot in self.groups])

    def least_for(self, lot, phase, standing):
        """Return how many deeds the exchanges of a lot of wheels need at least from a phase on."""
        wheels = [wheel for wheel in lot if standing[wheel] < self.clock[1][wheel]]
        if not wheels:
            return 0
        period = self.clock[0]
        able = [self.able_at((phase + more) % period, wheels) for more in range(period)]
        need = sum([self.clock[1][wheel] - standing[wheel] for wheel in wheels])
        deeds = (need - 1) // sum(able) * period
        need = (need - 1) % sum(able) + 1
        for many in able:
            if need > 0:
                deeds += 1
            need -= many
        return deeds

    def able_at(self, phase, wheels):
        """Return how many of the wheels can be exchanged by the hands at a phase."""
        return min(self.hands, len([wheel for wheel in wheels if phase in self.clock[3][wheel]]))


def lots_of(clock):
    """Return the list of lots of wheels: all of them, and for each one those that have no other gaps than it."""
    lots = [list(range(len(clock[1])))]
    for phases in clock[3]:
        lot = [wheel for wheel, others in enumerate(clock[3]) if all([phase in phases for phase in others])]
        if lot not in lots:
            lots.append(lot)
    return lots
