"""Point 15: the least mean number of ticks if wheels miss with a chance."""

import itertools
import random
from fractions import Fraction

from livingclock.errors import BadClock, BadPhase, BadRatio, BadStanding, NotSure, TooMany
from livingclock.middle import rest
from livingclock.misses import sure
from livingclock.odds import best_deed, least_mean, shows_best_deed
from tests.samples import (
    CHASE, JUNK, LONE, PAIR, STILL, STUCK, THREE, Case, all_standings, nested, plain_unfit, some_clock,
)

FAR = 10 ** 30
ALONE = (1, (1,), (), ((0,),), ())
TWO = (2, (1, 1), ((0, 0, 1),), ((0,), (0,)), ((0, 1, 1, 1),))
CHANCES = ((0, 1), (1, 2), (1, 3), (9, 10))
# 61 pairs don't come about; 60 and 64 do.
FULL = (12, (4,), (), ((0, 3),), ())
OVER = (1, (1,) * 6, (), ((0,),) * 6, ())
SAMPLES = (THREE, STUCK, PAIR, LONE, CHASE, STILL, TWO, ALONE)
WRONG_CHANCES = JUNK + (
    (1, 1), (2, 4), (0, 2), (3, 2), (-1, 2), (1, -2), (1, 0), (0, 0), (0, -1), (False, 1), (0, True), (1, "2"),
    [1, 2], (1, 2, 3), (1,), (None, 2), (10 ** 40, 10 ** 40),
)


def tries(clock, phase, standing):
    """Return the list of the deeds that can be tried."""
    free = [i for i in range(len(standing)) if standing[i] < clock[1][i] and phase in clock[3][i]]
    return [deed for many in range(len(free) + 1) for deed in itertools.combinations(free, many)]


def outcomes(standing, deed, chance):
    """Return the list of pairs: a chance above 0, the standing behind a deed."""
    told = []
    for missed in itertools.product((True, False), repeat=len(deed)):
        odds = Fraction(1)
        after = list(standing)
        for wheel, miss in zip(deed, missed):
            odds *= chance if miss else 1 - chance
            after[wheel] += not miss
        if odds:
            told.append((odds, tuple(after)))
    return told


def plain_sure(clock, chance):
    """Return a dict from the pairs (phase, standing) that are sure to the list of the deeds that keep so.

    All pairs are taken at first; those without a deed that stays among them, or from which the end can't be come to by
    such deeds, are left out until none is.
    """
    good = {(phase, standing) for phase in range(clock[0]) for standing in all_standings(clock)}
    while True:
        keep = {place: keeping(clock, place, chance, good) for place in good}
        reach = {(phase, clock[1]) for phase in range(clock[0])}
        grown = True
        while grown:
            grown = False
            for place in good - reach:
                later = (place[0] + 1) % clock[0]
                ways = [after for deed in keep[place] for _, after in outcomes(place[1], deed, chance)]
                if any((later, after) in reach for after in ways):
                    reach.add(place)
                    grown = True
        if reach == good:
            return keep
        good = reach


def keeping(clock, place, chance, good):
    """Return the list of the deeds whose outcomes all fit and are among the good pairs."""
    phase, standing = place
    later = (phase + 1) % clock[0]
    return [
        deed for deed in tries(clock, phase, standing)
        if all(
            not plain_unfit(clock, after, phase) and (later, after) in good
            for _, after in outcomes(standing, deed, chance)
        )
    ]


def ratio(fraction):
    """Return a fraction as the program tells it."""
    return (fraction.numerator, fraction.denominator)


def small_clocks(many):
    """Return a list of so many clocks of at most 60 pairs, or fewer."""
    clocks = [some_clock(seed, 4, 3, 2) for seed in range(many)]
    return [clock for clock in clocks if clock[0] * len(all_standings(clock)) <= 60]


class ExamplesTest(Case):

    def test_examples(self):
        self.assertEqual(least_mean(ALONE, 0, (0,), (1, 2)), (2, 1))
        self.assertEqual(best_deed(ALONE, 0, (0,), (1, 2)), (0,))
        self.assertEqual(least_mean(ALONE, 0, (1,), (1, 2)), (0, 1))
        self.assertEqual(least_mean((1, (1, 1), (), ((0,), (0,)), ()), 0, (0, 0), (1, 2)), (8, 3))
        self.assertEqual(least_mean(TWO, 0, (0, 0), (0, 1)), (1, 1))
        self.assertIsNone(least_mean(TWO, 0, (1, 0), (1, 3)))
        self.assertIs(shows_best_deed(TWO, 0, (0, 0), (1, 2), (1,)), True)
        self.fails(NotSure, best_deed, TWO, 0, (1, 0), (1, 3))


class MeansTest(Case):

    def test_the_least_means_fit_together(self):
        # Only the least means are, for all pairs at once, the least of 1 and the mean of those behind a deed.
        counts = {"none": 0, "done": 0, "some": 0, "waits": 0, "choice": 0}
        for seed, clock in enumerate(list(SAMPLES) + small_clocks(300)):
            given = CHANCES[seed % len(CHANCES)]
            chance = Fraction(*given)
            keep = plain_sure(clock, chance)
            means = {place: least_mean(clock, *place, given) for place in keep}
            for phase in range(clock[0]):
                for standing in all_standings(clock):
                    place = (phase, standing)
                    if place not in keep:
                        self.assertIsNone(least_mean(clock, phase, standing, given), (clock, place, given))
                        self.fails(NotSure, best_deed, clock, phase, standing, given)
                        self.fails(NotSure, shows_best_deed, clock, phase, standing, given, None)
                        counts["none"] += 1
                    elif standing == clock[1]:
                        self.assertEqual(means[place], (0, 1))
                        self.assertEqual(best_deed(clock, phase, standing, given), ())
                        self.assertIs(shows_best_deed(clock, phase, standing, given, ()), True)
                        counts["done"] += 1
                    else:
                        self.compare(clock, place, given, keep, means, counts)
        self.assertGreater(min(counts.values()), 30, counts)

    def compare(self, clock, place, given, keep, means, counts):
        """Hold the mean and the best deeds of a pair against the means of all others."""
        phase, standing = place
        later = (phase + 1) % clock[0]
        told = {}
        for deed in keep[place]:
            parts = outcomes(standing, deed, Fraction(*given))
            told[deed] = 1 + sum(odds * Fraction(*means[(later, after)]) for odds, after in parts)
        least = min(told.values())
        self.assertEqual(means[place], ratio(least), (clock, place, given))
        best = [deed for deed in told if told[deed] == least]
        self.assertIn(best_deed(clock, phase, standing, given), best)
        for deed in tries(clock, phase, standing):
            self.assertIs(shows_best_deed(clock, phase, standing, given, deed), deed in best, (clock, place, deed))
        counts["some"] += 1
        counts["waits"] += best == [()]
        counts["choice"] += 1 < len(best)

    def test_without_chance_it_is_the_rest(self):
        for clock in list(SAMPLES) + small_clocks(100):
            for phase in range(clock[0]):
                for standing in all_standings(clock):
                    rows = rest(clock, phase, standing)
                    mean = least_mean(clock, phase, standing, (0, 1))
                    if rows is None:
                        self.assertIsNone(mean)
                    else:
                        last = max([tick for ticks in rows for tick in ticks], default=phase - 1)
                        self.assertEqual(mean, (last + 1 - phase, 1))

    def test_by_hand(self):
        # One wheel that is tried once a round: a round more for each miss.
        for period in range(1, 13):
            lone = (period, (1,), (), ((period - 1,),), ())
            for phase in range(period):
                mean = Fraction(period - phase) + Fraction(period * 2, 3)
                self.assertEqual(least_mean(lone, phase, (0,), (2, 5)), ratio(mean))
        self.assertEqual(least_mean(FULL, 0, (4,), (1, 2)), (0, 1))
        self.assertEqual(least_mean(FULL, 1, (3,), (1, 10 ** 30)), ratio(
            3 + (9 + Fraction(3, 10 ** 30)) / (1 - Fraction(1, 10 ** 60)) / 10 ** 30,
        ))
        self.assertEqual(best_deed(FULL, 1, (3,), (1, 2)), ())
        self.assertEqual(best_deed(FULL, 3, (3,), (1, 2)), (0,))

    def test_trying_less_at_once_may_be_sure_where_more_is_not(self):
        # Wheel 0 needs wheel 1, and they touch at each tick.
        tied = (1, (1, 1), ((0, 0, 1),), ((0,), (0,)), ((0, 1, 1, 1),))
        self.assertEqual(least_mean(tied, 0, (0, 0), (0, 1)), (1, 1))
        self.assertEqual(least_mean(tied, 0, (0, 0), (1, 2)), (4, 1))
        self.assertIs(shows_best_deed(tied, 0, (0, 0), (0, 1), (0, 1)), True)
        self.assertIs(shows_best_deed(tied, 0, (0, 0), (0, 1), (1,)), False)
        self.assertIs(shows_best_deed(tied, 0, (0, 0), (1, 2), (0, 1)), False)
        self.assertIs(shows_best_deed(tied, 0, (0, 0), (1, 2), (1,)), True)
        # Two that need each other can be exchanged without misses only, though any number can be sure to be enough.
        self.assertEqual(least_mean(PAIR, 0, (0, 0), (0, 1)), (2, 1))
        self.assertIsNone(least_mean(PAIR, 0, (0, 0), (1, 1000)))
        room = (5, (1, 1), ((0, 0, 1),), ((1, 2, 3), (1, 2, 3)), ((0, 1, 1, 1), (1, 1, 0, 1)))
        self.assertIs(sure(room, 0, (0, 0), 2), True)
        self.assertIsNone(least_mean(room, 0, (0, 0), (1, 1000)))

    def test_most_pairs(self):
        five = (1, (1, 1, 2, 4), ((0, 0, 1), (0, 1, 3), (0, 2, 3)), ((0,),) * 4, ((0, 1, 3, 2), (2, 2, 3, 4)))
        mean = least_mean(five, 0, (0,) * 4, (1, 3))
        deed = best_deed(five, 0, (0,) * 4, (1, 3))
        parts = outcomes((0,) * 4, deed, Fraction(1, 3))
        behind = sum(odds * Fraction(*least_mean(five, 0, after, (1, 3))) for odds, after in parts)
        self.assertEqual(Fraction(*mean), 1 + behind)


class ArgumentsTest(Case):

    def test_any_value_is_shown_or_not(self):
        values = JUNK + ((1, 0), (0, 0), (0, True), [0], (2,), ("0",), nested(20000), ((0,),))
        for value in values:
            if value not in ((), (0,)) or isinstance(value, list):
                self.assertIs(shows_best_deed(TWO, 0, (0, 0), (1, 2), value), False)
            if value != ():
                self.assertIs(shows_best_deed(TWO, 0, (1, 1), (1, 2), value), False)
        self.assertIs(shows_best_deed(TWO, 1, (0, 0), (1, 2), ()), True)
        self.assertIs(shows_best_deed(TWO, 1, (0, 0), (1, 2), (0,)), False)

    def test_wrong_arguments(self):
        for call, more in ((least_mean, ()), (best_deed, ()), (shows_best_deed, (None,))):
            for chance in WRONG_CHANCES:
                self.fails(BadRatio, call, THREE, 0, (0, 0, 0), chance, *more)
                self.fails(BadRatio, call, OVER, 0, (0,) * 6, chance, *more)
            for standing in JUNK + ((0, 0), (0, 0, 2), (0, 0, True), [0, 0, 0]):
                self.fails(BadStanding, call, THREE, 0, standing, None, *more)
            for phase in (-1, 3, FAR, None, True, False, "0", (), [], {}):
                self.fails(BadPhase, call, THREE, phase, None, None, *more)
            self.fails(BadClock, call, None, -1, None, None, *more, part="clock")

    def test_too_many(self):
        for call, more in ((least_mean, ()), (best_deed, ()), (shows_best_deed, (None,))):
            for chance in ((0, 1), (1, 2)):
                self.fails(TooMany, call, OVER, 0, (0,) * 6, chance, *more, most=60)
                self.fails(TooMany, call, OVER, 0, (1,) * 6, chance, *more, most=60)
                call(FULL, 0, (0,), chance, *more)

    def test_not_sure_comes_ahead_of_too_many(self):
        wide = (2, (1, 1, 4, 4), ((0, 0, 1),), ((0,), (0,), (0,), (0,)), ((0, 1, 1, 1),))
        for call, more in ((best_deed, ()), (shows_best_deed, (None,))):
            self.fails(NotSure, call, wide, 0, (1, 0, 0, 0), (1, 3), *more)
            self.fails(NotSure, call, wide, 1, (1, 0, 0, 0), (1, 3), *more)
            self.fails(TooMany, call, wide, 0, (1, 0, 0, 0), (0, 1), *more, most=60)
            self.fails(TooMany, call, wide, 0, (0, 0, 0, 0), (1, 3), *more, most=60)
        self.fails(TooMany, least_mean, wide, 0, (1, 0, 0, 0), (1, 3), most=60)

    def test_sure_for_great_clocks(self):
        # What is sure is asked of clocks of any size, so it is held against plain tries on its own.
        told = {True: 0, False: 0}
        for seed in range(60):
            clock = some_clock(seed, 3, 4, 2)
            idle = (clock[0], clock[1] + (4, 4), clock[2], clock[3] + ((0,), (0,)), clock[4])
            for chance in ((0, 1), (1, 2)):
                keep = plain_sure(clock, Fraction(*chance))
                for standing in random.Random(seed).sample(all_standings(clock), min(5, len(all_standings(clock)))):
                    for phase in range(clock[0]):
                        error = TooMany if (phase, standing) in keep else NotSure
                        fields = {"most": 60} if error is TooMany else {}
                        if idle[0] * len(all_standings(idle)) > 60:
                            self.fails(error, best_deed, idle, phase, standing + (0, 0), chance, **fields)
                            told[error is TooMany] += 1
        self.assertGreater(min(told.values()), 100, told)
