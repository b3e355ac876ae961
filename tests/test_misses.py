"""Point 13: exchanges that can miss."""

import itertools
import random

from livingclock.errors import BadClock, BadNumber, BadPhase, BadStanding, NotSure, TooMany
from livingclock.middle import rest
from livingclock.misses import deed_for, most_misses, sure
from tests.samples import (
    CHASE, JUNK, LONE, PAIR, SKIPS, STILL, STUCK, THREE, Case, all_standings, plain_unfit, some_clock,
)

FAR = 10 ** 30
TWO = (2, (1, 1), ((0, 0, 1),), ((0,), (0,)), ((0, 1, 1, 1),))
# Two wheels that need each other, with so many ticks between two touches at which both may be exchanged.
ROOM = (5, (1, 1), ((0, 0, 1),), ((1, 2, 3), (1, 2, 3)), ((0, 1, 1, 1), (1, 1, 0, 1)))
# Two parts of two wheels that need each other, the second with more room.
ROOMS = (
    5, (1, 1, 1, 1), ((0, 0, 2), (0, 1, 3)), ((1, 2), (1, 2, 3), (1, 2), (1, 2, 3)),
    ((0, 1, 2, 1), (1, 1, 3, 1), (2, 1, 0, 1), (3, 1, 1, 1)),
)
# More than 4000 pairs, 4000 pairs, and one more wheel than that.
GREAT = (5, (4, 4, 4, 4, 1), ((0, 0, 1),), ((0,),) * 5, ())
FULL = (5, (4, 4, 3, 3, 1), (), ((0,),) * 5, ())
OVER = (7, (4, 4, 4, 4), (), ((0,),) * 4, ())
MISSES = (None, True, False, -1, 13, FAR, "1", (), (1,), [], {})
SAMPLES = (THREE, STUCK, PAIR, LONE, CHASE, SKIPS, STILL, TWO, ROOM, ROOMS)


def tries(clock, phase, standing):
    """Return the list of the deeds that can be tried."""
    free = [i for i in range(len(standing)) if standing[i] < clock[1][i] and phase in clock[3][i]]
    return [deed for many in range(len(free) + 1) for deed in itertools.combinations(free, many)]


def behind(standing, deed, missed):
    """Return the standing behind a deed some of whose wheels missed."""
    return tuple(edition + (i in deed and i not in missed) for i, edition in enumerate(standing))


def plain_sure(clock, most):
    """Return a list, for each number of misses, of the set of the pairs (phase, standing) that are sure."""
    states = [(phase, standing) for phase in range(clock[0]) for standing in all_standings(clock)]
    sets = []
    for misses in range(most + 1):
        good = {(phase, clock[1]) for phase in range(clock[0])}
        sets.append(good)
        grown = True
        while grown:
            grown = False
            for place in states:
                if place not in good and any(holds(clock, place, deed, sets) for deed in tries(clock, *place)):
                    good.add(place)
                    grown = True
    return sets


def holds(clock, place, deed, sets):
    """Tell whether a deed leads to what is sure already, whichever wheels miss, at most so many as the last set has."""
    phase, standing = place
    misses = len(sets) - 1
    for many in range(min(misses, len(deed)) + 1):
        for missed in itertools.combinations(deed, many):
            after = behind(standing, deed, missed)
            if plain_unfit(clock, after, phase) or ((phase + 1) % clock[0], after) not in sets[misses - many]:
                return False
    return True


class ExamplesTest(Case):

    def test_examples(self):
        self.assertEqual(most_misses(TWO, 0, (0, 0)), 12)
        self.assertIs(sure(TWO, 0, (1, 0), 0), True)
        self.assertEqual(most_misses(TWO, 0, (1, 0)), 0)
        self.assertEqual(deed_for(TWO, 0, (1, 0), 0), (1,))
        self.assertEqual(deed_for(TWO, 0, (1, 1), 5), ())
        self.fails(NotSure, deed_for, TWO, 0, (1, 0), 1)


class SureTest(Case):

    def test_against_all_tries(self):
        counts = {}
        clocks = [some_clock(seed, 4, 3, 2) for seed in range(150)] + [some_clock(seed, 6, 2, 1) for seed in range(60)]
        for clock in list(SAMPLES) + clocks:
            sets = plain_sure(clock, 4)
            for phase in range(clock[0]):
                for standing in all_standings(clock):
                    borne = [misses for misses in range(5) if (phase, standing) in sets[misses]]
                    told = [misses for misses in range(5) if sure(clock, phase, standing, misses)]
                    self.assertEqual(told, borne, (clock, phase, standing))
                    most = most_misses(clock, phase, standing)
                    self.assertEqual(most is None, not borne)
                    if most is not None:
                        self.assertEqual(min(most, 4), borne[-1])
                    counts[most] = counts.get(most, 0) + 1
        for most in (None, 0, 1, 2, 12):
            self.assertGreater(counts.get(most, 0), 10, counts)

    def test_all_numbers_of_misses(self):
        # Each tick more between two touches lets one more miss be borne.
        for room in range(1, 12):
            clock = (12, (1, 1), ((0, 0, 1),), ((tuple(range(1, room + 1)),) * 2), ((0, 1, 1, 1), (1, 1, 0, 1)))
            sets = plain_sure(clock, 12)
            start = (0, (0, 0))
            self.assertEqual(most_misses(clock, *start), max(m for m in range(13) if start in sets[m]), room)

    def test_without_misses_it_is_the_rest(self):
        for clock in list(SAMPLES) + [some_clock(seed, 5, 4, 3) for seed in range(100)]:
            for phase in range(clock[0]):
                for standing in random.Random(phase).sample(all_standings(clock), min(6, len(all_standings(clock)))):
                    self.assertIs(sure(clock, phase, standing, 0), rest(clock, phase, standing) is not None)

    def test_edges(self):
        for clock in SAMPLES:
            for phase in range(clock[0]):
                self.assertEqual(most_misses(clock, phase, clock[1]), 12)
        self.assertEqual([most_misses(LONE, 0, (0,)), sure(STILL, 11, (0, 0, 0), 12)], [12, True])
        self.assertEqual([most_misses(STUCK, 0, (0, 0)), most_misses(CHASE, 2, (0, 0, 0))], [None, None])
        self.assertEqual([sure(ROOM, 0, (0, 0), 2), sure(ROOM, 0, (0, 0), 3)], [True, False])
        self.assertEqual([most_misses(ROOM, phase, (0, 0)) for phase in range(5)], [2] * 5)
        self.assertEqual([most_misses(ROOM, phase, (1, 0)) for phase in range(5)], [None, 2, 1, 0, None])
        # All misses may fall on the part with less room.
        self.assertEqual(most_misses(ROOMS, 0, (0, 0, 0, 0)), 1)
        self.assertEqual(most_misses(ROOMS, 0, (1, 0, 1, 0)), 2)

    def test_wide_clock(self):
        row = (1, (1,) * 11, tuple((0, i, i + 1) for i in range(10)), ((0,),) * 11,
               tuple((i, 1, i + 1, 1) for i in range(10)))
        self.assertEqual(most_misses(row, 0, (0,) * 11), 12)
        self.assertEqual(most_misses(row, 0, (1,) + (0,) * 10), 0)
        self.assertEqual(most_misses(FULL, 0, (0, 0, 0, 0, 0)), 12)


class DeedForTest(Case):

    def play(self, clock, phase, standing, misses):
        """Ask that what deed_for tells leads to the end, whichever wheels miss."""
        layer = {(phase, standing, misses)}
        for _ in range(clock[0] * (sum(clock[1]) + misses + 1) + 1):
            after = set()
            for now, editions, left in layer:
                if editions == clock[1]:
                    self.assertEqual(deed_for(clock, now, editions, left), ())
                    continue
                deed = deed_for(clock, now, editions, left)
                self.assertIn(deed, tries(clock, now, editions))
                for many in range(min(left, len(deed)) + 1):
                    for missed in itertools.combinations(deed, many):
                        then = behind(editions, deed, missed)
                        self.assertFalse(plain_unfit(clock, then, now), (clock, now, editions, left))
                        after.add(((now + 1) % clock[0], then, left - many))
            layer = after
        self.assertFalse(layer, (clock, phase, standing, misses))

    def test_to_the_end(self):
        played = 0
        for clock in list(SAMPLES) + [some_clock(seed, 4, 3, 2) for seed in range(120)]:
            for seed in range(6):
                chance = random.Random(seed)
                phase, misses = chance.randrange(clock[0]), chance.choice((0, 1, 2, 3))
                standing = chance.choice(all_standings(clock) + [(0,) * len(clock[1])] * 4)
                if sure(clock, phase, standing, misses):
                    self.play(clock, phase, standing, misses)
                    played += 1
                else:
                    self.fails(NotSure, deed_for, clock, phase, standing, misses)
        self.assertGreater(played, 300)

    def test_many_misses(self):
        for misses in (0, 5, 12):
            self.play(TWO, 0, (0, 0), misses)
            self.play(PAIR, 1, (1, 1), misses)
        self.play(ROOM, 4, (0, 0), 2)
        self.play(ROOMS, 0, (0, 0, 0, 0), 1)
        self.fails(NotSure, deed_for, ROOMS, 0, (0, 0, 0, 0), 2)


class WrongArgumentsTest(Case):

    def test_wrong_arguments(self):
        for call in (sure, deed_for):
            for misses in MISSES:
                self.fails(BadNumber, call, THREE, 0, (0, 0, 0), misses)
                self.fails(BadNumber, call, GREAT, 0, (0,) * 5, misses)
        for call, more in ((sure, (-1,)), (deed_for, (-1,)), (most_misses, ())):
            for standing in JUNK + ((0, 0), (0, 0, 2), (0, 0, True), [0, 0, 0]):
                self.fails(BadStanding, call, THREE, 0, standing, *more)
            for phase in (-1, 3, FAR, None, True, False, "0", (), [], {}):
                self.fails(BadPhase, call, THREE, phase, None, *more)
            self.fails(BadClock, call, None, -1, None, *more, part="clock")
            self.fails(BadClock, call, (3, (1,), (), ((),), ()), -1, None, *more, part="gaps")
            self.fails(BadStanding, call, GREAT, 0, (0,) * 4, *more)

    def test_too_many(self):
        for clock in (GREAT, OVER):
            none = (0,) * len(clock[1])
            self.fails(TooMany, sure, clock, 0, none, 0, most=4000)
            self.fails(TooMany, most_misses, clock, 0, none, most=4000)
            self.fails(TooMany, most_misses, clock, 0, clock[1], most=4000)
            self.fails(TooMany, deed_for, clock, 0, none, 12, most=4000)
            self.fails(TooMany, deed_for, clock, 0, clock[1], 12, most=4000)
        self.assertIs(sure(FULL, 0, (0,) * 5, 12), True)

    def test_not_sure_comes_ahead_of_too_many(self):
        # The pair of the example beside wheels that may be exchanged at any tick.
        wide = (2, (1, 1, 4, 4, 4, 4), ((0, 0, 1),), ((0,), (0,)) + ((0, 1),) * 4, ((0, 1, 1, 1),))
        self.fails(NotSure, deed_for, wide, 0, (1, 0, 0, 0, 0, 0), 1)
        self.fails(NotSure, deed_for, wide, 1, (1, 0, 0, 0, 0, 0), 12)
        self.fails(TooMany, deed_for, wide, 0, (1, 0, 0, 0, 0, 0), 0, most=4000)
        self.fails(TooMany, sure, wide, 0, (1, 0, 0, 0, 0, 0), 1, most=4000)
        self.fails(TooMany, most_misses, wide, 0, (1, 0, 0, 0, 0, 0), most=4000)
        # One part alone is too great, and it has no rest: its wheels chase each other.
        touches = tuple((0, i, j) for i in range(6) for j in range(i + 1, 6))
        tied = (1, (4,) * 6, touches, ((0,),) * 6, tuple((i, 1, (i + 1) % 6, 2) for i in range(6)))
        self.assertIsNone(rest(tied, 0, (0,) * 6))
        self.fails(NotSure, deed_for, tied, 0, (0,) * 6, 0)
        self.fails(NotSure, deed_for, tied, 0, (0,) * 6, 5)
        self.fails(TooMany, deed_for, tied, 0, (4,) * 6, 5, most=4000)
