"""Chances: the least mean number of ticks to the end if each wheel of a deed misses by itself with some chance."""

from math import gcd

from livingclock.checks import is_tuple_of, is_whole
from livingclock.courses import MOST_HANDS, check_many, entries_at, is_deed, is_fit, shortest_course, standings_between
from livingclock.errors import BadRatio, NotSure
from livingclock.middle import raised, rest_beside
from livingclock.misses import check_place

MOST_PAIRS = 60


def least_mean(clock, phase, standing, chance):
    """Return the least mean number of ticks, a ratio, until all have their last editions; None if it isn't sure."""
    check_place(clock, phase, standing)
    check_chance(chance)
    check_many(clock, MOST_PAIRS)
    return Means(clock, chance, standing).mean_at(phase, standing)


def best_deed(clock, phase, standing, chance):
    """Return a deed with which a way of least mean may begin, () at the last editions."""
    means = sure_means(clock, phase, standing, chance)
    if standing == clock[1]:
        return ()
    if chance[0] == 0:
        return shortest_course(clock, phase, standing, MOST_HANDS)[0]
    return means.greatest_deed(phase, standing)


def shows_best_deed(clock, phase, standing, chance, value):
    """Tell whether a value is what best_deed may return."""
    means = sure_means(clock, phase, standing, chance)
    if standing == clock[1]:
        return value == ()
    return is_deed(clock, phase, standing, value) and means.is_best(phase, standing, value)


def check_chance(chance):
    """Raise BadRatio for a value that is no ratio in lowest terms from 0 on and below 1."""
    if not is_tuple_of(chance, 2) or not is_whole(chance[0]) or not is_whole(chance[1]):
        raise BadRatio("a chance is a pair of integers")
    if not 0 <= chance[0] < chance[1] or gcd(chance[0], chance[1]) > 1:
        raise BadRatio("a chance is from 0 on and below 1, in lowest terms")


def sure_means(clock, phase, standing, chance):
    """Return the means from a standing on; raise the error of what is wrong, NotSure if the end isn't sure."""
    check_place(clock, phase, standing)
    check_chance(chance)
    # TooMany comes after all others, so this is asked of greater clocks, too.
    if not is_certain(clock, phase, standing, chance):
        raise NotSure("there is no way that is sure to come to the end")
    check_many(clock, MOST_PAIRS)
    return Means(clock, chance, standing)


def is_certain(clock, phase, standing, chance):
    """Tell whether there is a way by which the end comes, whichever wheels miss, and all that touch always fit."""
    if chance[0] == 0:
        return rest_beside(clock, phase, standing, ()) is not None
    # All may miss for any time, so each standing on the way fits at all phases, and each wheel can be tried alone.
    # What can be done stays so when more is done, so it doesn't matter which wheel is tried first.
    entries = [entry for at in range(clock[0]) for entry in entries_at(clock, at)]
    while standing is not None and standing != clock[1]:
        standing = next_fit(clock, entries, standing)
    return standing is not None


def next_fit(clock, entries, standing):
    """Return a standing with one edition more that has all that the entries ask for; None if one of the two hasn't."""
    if not is_fit(entries, standing):
        return None
    for wheel, last in enumerate(clock[1]):
        if standing[wheel] < last and is_fit(entries, raised(standing, wheel)):
            return raised(standing, wheel)
    return None


class Means:
    """The least means at each phase with each standing from a first one on."""

    def __init__(self, clock, chance, standing):
        self.clock = clock
        self.chance = chance
        self.entries = [entries_at(clock, phase) for phase in range(clock[0])]
        self.known = {(phase, clock[1]): whole(0) for phase in range(clock[0])}
        if chance[0] > 0:
            # Greater standings come first: all that can follow a standing is known but for the standing itself.
            for behind in standings_between(standing, clock[1])[::-1][1:]:
                self.fill(behind)

    def fill(self, standing):
        """Find the least means with a standing, when they are known for all greater ones."""
        if not all([is_fit(entries, standing) for entries in self.entries]):
            return
        deeds = [self.greatest_deed(phase, standing) for phase in range(self.clock[0])]
        if not any(deeds):
            return
        lines = [self.line_of(phase, standing, deed) for phase, deed in enumerate(deeds)]
        for phase, mean in enumerate(means_of(lines)):
            self.known[(phase, standing)] = mean

    def greatest_deed(self, phase, standing):
        """Return the deed of all wheels each of which can be tried by itself so that the end stays sure.

        It is a best one, and it is sure itself: what is done besides never keeps anything else from being done.
        """
        wheels = [wheel for wheel, phases in enumerate(self.clock[3]) if phase in phases]
        able = [wheel for wheel in wheels if standing[wheel] < self.clock[1][wheel]]
        return tuple([wheel for wheel in able if (phase, raised(standing, wheel)) in self.known])

    def line_of(self, phase, standing, deed):
        """Return the pair of the mean that a deed has without what comes if all miss, and the chance that all miss."""
        outcomes = self.outcomes(standing, deed)
        return (self.mean_behind(phase, outcomes[1:]), outcomes[0][0])

    def outcomes(self, standing, deed):
        """Return the list of pairs: a chance above 0, the standing to which a deed then leads.

        If wheels can miss, the first pair is that of all of them missing.
        """
        found = [(whole(1), standing)]
        hit = one_less(self.chance)
        for wheel in deed:
            missed = [(multiplied(odds, self.chance), after) for odds, after in found if self.chance[0] > 0]
            found = missed + [(multiplied(odds, hit), raised(after, wheel)) for odds, after in found]
        return found

    def mean_behind(self, phase, outcomes):
        """Return 1 and the mean of what outcomes lead to; None if one leads to what doesn't fit or isn't sure."""
        total = whole(1)
        for odds, after in outcomes:
            mean = self.mean_at((phase + 1) % self.clock[0], after)
            if mean is None or not is_fit(self.entries[phase], after):
                return None
            total = added(total, multiplied(odds, mean))
        return total

    def mean_at(self, phase, standing):
        """Return the least mean at a phase with a standing, None if the end isn't sure."""
        if self.chance[0] > 0:
            return self.known.get((phase, standing))
        course = shortest_course(self.clock, phase, standing, MOST_HANDS)
        return None if course is None else whole(len(course))

    def is_best(self, phase, standing, deed):
        """Tell whether a way of least mean may begin with a deed."""
        return self.mean_behind(phase, self.outcomes(standing, deed)) == self.mean_at(phase, standing)


def means_of(lines):
    """Return the list of the means at all phases of a round, lines being those of the deeds that are tried."""
    sure, odds = whole(0), whole(1)
    for mean, all_miss in lines[::-1]:
        sure = added(mean, multiplied(all_miss, sure))
        odds = multiplied(all_miss, odds)
    means = [divided(sure, one_less(odds))]
    for mean, all_miss in lines[:0:-1]:
        means.append(added(mean, multiplied(all_miss, means[-1])))
    return means[:1] + means[:0:-1]


def whole(number):
    """Return an integer as a ratio."""
    return (number, 1)


def lowest(numerator, denominator):
    """Return a ratio in lowest terms."""
    common = gcd(numerator, denominator)
    return (numerator // common, denominator // common)


def one_less(ratio):
    """Return 1 less a ratio."""
    return (ratio[1] - ratio[0], ratio[1])


def added(one, other):
    """Return the sum of two ratios."""
    return lowest(one[0] * other[1] + other[0] * one[1], one[1] * other[1])


def multiplied(one, other):
    """Return the product of two ratios."""
    return lowest(one[0] * other[0], one[1] * other[1])


def divided(one, other):
    """Return a ratio divided by a positive one."""
    return lowest(one[0] * other[1], one[1] * other[0])
