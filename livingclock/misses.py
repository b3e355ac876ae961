"""Exchanges that can miss: whether all wheels come to their last editions, however few or many misses there are."""

from livingclock.checks import is_between
from livingclock.clocks import check_clock
from livingclock.courses import (
    MOST_PAIRS, check_many, check_phase, entries_at, is_fit, is_within, standings_between, tries_at,
)
from livingclock.errors import BadNumber, NotSure
from livingclock.joinings import clock_of, parts_of
from livingclock.middle import check_standing, rest_beside

MOST_MISSES = 12
# What stands for not even a single try being sure.
NEVER = -1


def sure(clock, phase, standing, misses):
    """Tell whether deeds can be tried so that all ends well, whichever wheels miss, at most so many in all."""
    check_place(clock, phase, standing)
    check_misses(misses)
    check_many(clock, MOST_PAIRS)
    return most_borne(trials_of(clock, standing), phase) >= misses


def most_misses(clock, phase, standing):
    """Return the greatest number of misses, up to 12, for which it is sure; None if it isn't without any."""
    check_place(clock, phase, standing)
    check_many(clock, MOST_PAIRS)
    most = most_borne(trials_of(clock, standing), phase)
    return None if most == NEVER else most


def deed_for(clock, phase, standing, misses):
    """Return a deed that may be tried with so many misses left; by always trying what it tells the end comes."""
    check_place(clock, phase, standing)
    check_misses(misses)
    trials = trials_of(clock, standing)
    # TooMany comes after all others: what can be told of a greater clock is asked first.
    if rest_beside(clock, phase, standing, ()) is None or most_borne(trials, phase) < misses:
        raise NotSure("with so many misses the end isn't sure")
    check_many(clock, MOST_PAIRS)
    deed = []
    for wheels, trial in trials:
        deed.extend([wheels[place] for place in trial.deed_at(phase, misses)])
    return tuple(sorted(deed))


def check_place(clock, phase, standing):
    """Raise the error of the first argument that is no clock, no phase or no standing."""
    check_clock(clock)
    check_phase(clock, phase)
    check_standing(clock, standing)


def check_misses(misses):
    """Raise BadNumber for a value that is no number of misses."""
    if not is_between(misses, 0, MOST_MISSES):
        raise BadNumber("misses is an integer from 0 to 12")


def trials_of(clock, standing):
    """Return the list of pairs, for each part of at most 4000 pairs (phase, standing): its wheels and its trial."""
    found = []
    for wheels in parts_of(clock):
        part = clock_of(clock, wheels)
        if is_within(part, MOST_PAIRS):
            found.append((wheels, Trial(part, tuple([standing[wheel] for wheel in wheels]))))
    return found


def most_borne(trials, phase):
    """Return the greatest number of misses for which all trials are sure from a phase on, NEVER if one never is."""
    # Parts don't mind each other: it is sure with so many misses if it is for each part with all of them.
    return min([trial.borne[(phase, trial.first)] for _, trial in trials], default=MOST_MISSES)


class Trial:
    """How many misses can be borne at each phase with each standing from a first one on."""

    def __init__(self, clock, standing):
        self.clock = clock
        self.first = standing
        self.entries = [entries_at(clock, phase) for phase in range(clock[0])]
        self.borne = {(phase, clock[1]): MOST_MISSES for phase in range(clock[0])}
        # Greater standings come first: all that can follow a standing is known but for the standing itself.
        for behind in standings_between(standing, clock[1])[::-1][1:]:
            self.fill(behind)

    def fill(self, standing):
        """Find how many misses can be borne with a standing, when it is known for all greater ones."""
        period = self.clock[0]
        offers = [self.offers_at(phase, standing) for phase in range(period)]
        for phase in range(period):
            self.borne[(phase, standing)] = NEVER
        grown = True
        while grown:
            grown = False
            for phase in range(period - 1, -1, -1):
                stay = self.borne_behind(phase, standing)
                most = max([stay] + [min(many, stay + size) for size, many in offers[phase]])
                if most > self.borne[(phase, standing)]:
                    self.borne[(phase, standing)] = most
                    grown = True

    def offers_at(self, phase, standing):
        """Return the list of pairs: a number of wheels, the most misses that a deed of so many can bear.

        That all wheels of the deed miss isn't asked here.
        """
        best = {}
        for deed, many in self.bearing(phase, standing):
            best[len(deed)] = max(best.get(len(deed), NEVER), many)
        return list(best.items())

    def bearing(self, phase, standing):
        """Return the list of pairs: a deed of at least one wheel, the most misses that it can bear unless all miss."""
        able = {}
        for deed, after in tries_at(self.clock, phase, standing, len(standing))[1:]:
            # A wheel that misses leaves the deed without it, and a miss less to bear.
            without = [deed[:place] + deed[place + 1:] for place in range(len(deed))]
            missed = [able[less] + 1 for less in without if less]
            able[deed] = min(missed + [self.borne_behind(phase, after)])
        return list(able.items())

    def borne_behind(self, phase, standing):
        """Return how many misses can be borne from the next tick on, NEVER if not all wheels that touch now fit."""
        if not is_fit(self.entries[phase], standing):
            return NEVER
        return self.borne[((phase + 1) % self.clock[0], standing)]

    def deed_at(self, phase, misses):
        """Return a deed for the first standing at a phase, so many misses being left, with which it is sure."""
        stay = self.borne_behind(phase, self.first)
        for deed, many in self.bearing(phase, self.first):
            if min(many, stay + len(deed)) >= misses:
                return deed
        return ()
