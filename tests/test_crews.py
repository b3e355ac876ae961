"""Points 62 and 63: one crew for several clocks."""

import itertools
import math
import random

from livingclock.crews import best_duty, least_phases, served, served_by
from livingclock.earliest import earliest
from livingclock.errors import BadClock, BadDuty, BadNumber, TooMany
from tests.samples import (
    CHASE, JUNK, LONE, PAIR, ROW, SKIPS, STILL, STUCK, THREE, Case, changed, earliest_ways, good_states, nowhere_later,
    some_clock,
)

FAR = 10 ** 30
ONCE = (1, (1,), (), ((0,),), ())
BOTH = (2, (1,), (), ((0, 1),), ())
SAMPLES = (THREE, STUCK, PAIR, LONE, CHASE, SKIPS, ONCE, BOTH)
IDLE = (1, (0,), (), ((),), ())


def with_crew(clock, period, phases):
    """Return a clock of a period whose wheels have no gaps but those at some phases."""
    touches = tuple((phase, i, j) for phase in range(period) for p, i, j in clock[2] if phase % clock[0] == p)
    gaps = tuple(tuple(p for p in phases if p % clock[0] in row) for row in clock[3])
    return (period, clock[1], touches, gaps, clock[4])


def plain_served(clock, period, phases):
    """Return the earliest plan over all ways of going on, with the crew at some phases."""
    shut = with_crew(clock, period, phases)
    none = (0,) * len(clock[1])
    good = good_states(shut)
    return earliest_ways(shut, 0, none, good) if (0, none) in good else None


def some_clocks(seed, many):
    """Return a tuple of up to so many clocks with a round of at most 12 ticks, and this round."""
    chance = random.Random(seed)
    clocks = tuple(some_clock(100 * seed + more, 4, 2, 2) for more in range(chance.randint(1, many)))
    period = math.lcm(*[clock[0] for clock in clocks])
    return clocks, period


class ExamplesTest(Case):

    def test_examples(self):
        self.assertIsNone(best_duty((ONCE, ONCE)))
        self.assertEqual(best_duty((ONCE, BOTH)), ((0, 1), 2))
        self.assertEqual(served((ONCE,), (None,)), (None,))


class ServedTest(Case):

    def test_against_all_ways(self):
        counts = {"none": 0, "some": 0, "all": 0}
        for seed in range(150):
            clocks, period = some_clocks(seed, 3)
            chance = random.Random(seed)
            duty = tuple(chance.choice([None] + list(range(len(clocks))) * 3) for _ in range(period))
            told = served(clocks, duty)
            self.assertEqual(len(told), len(clocks))
            for place, clock in enumerate(clocks):
                phases = [phase for phase in range(period) if duty[phase] == place]
                self.assertEqual(told[place], plain_served(clock, period, phases), (clocks, duty))
            lost = told.count(None)
            counts["all" if lost == 0 else "none" if lost == len(told) else "some"] += 1
            ends = [None if plan is None else max([t + 1 for row in plan for t in row], default=0) for plan in told]
            self.assertEqual(served_by(clocks, duty), None if lost else max(ends))
        self.assertGreater(min(counts.values()), 20, counts)

    def test_all_the_time(self):
        for clock in SAMPLES:
            self.assertEqual(served((clock,), (0,) * clock[0]), (earliest(clock),))
        self.assertEqual(served((THREE, IDLE), (0, 0, 0)), (earliest(THREE), ((),)))
        self.assertEqual(served((ROW,), (0,) * 12), (earliest(ROW),))

    def test_more_phases_are_nowhere_later(self):
        for seed in range(80):
            clock = some_clock(seed, 6, 3, 2)
            chance = random.Random(seed)
            less = tuple(chance.choice((None, 0)) for _ in range(clock[0]))
            more = tuple(chance.choice((there, 0)) for there in less)
            plan, other = served((clock,), less)[0], served((clock,), more)[0]
            if plan is not None:
                self.assertTrue(nowhere_later(other, plan))

    def test_edges(self):
        self.assertEqual(served((IDLE,), (None,)), (((),),))
        self.assertEqual(served_by((IDLE,), (None,)), 0)
        self.assertEqual(served_by((IDLE, IDLE, IDLE), (0,)), 0)
        self.assertEqual(served_by((ONCE, IDLE), (0,)), 1)
        self.assertIsNone(served_by((ONCE, IDLE), (1,)))
        # The round is that of all clocks: a clock of one tick has two of its own in it.
        self.assertEqual(served((ONCE, BOTH), (0, 1)), (((0,),), ((1,),)))
        self.assertEqual(served((ONCE, BOTH), (1, 0)), (((1,),), ((0,),)))
        self.assertEqual(served((BOTH, ONCE), (None, 0)), (((1,),), None))
        self.assertEqual(served_by((ONCE, BOTH), (1, 0)), 2)
        self.assertEqual(served((STUCK, ONCE), (0, 1)), (None, ((1,),)))
        long = ((4, (1,), (), ((3,),), ()), (6, (1,), (), ((2,),), ()))
        self.assertEqual(served(long, (1,) * 11 + (0,)), (((11,),), ((2,),)))
        self.assertEqual(served(long, (0,) * 8 + (1,) * 4), (((3,),), ((8,),)))

    def test_wrong_arguments(self):
        for call in (served, served_by):
            for duty in JUNK + ((0,), (0, 0), (0, 0, 0, 0), (0, 0, 2), (0, 0, -1), (0, 0, True), [0, 0, 0], (0, 0, "0"),
                                (0, 0, ()), (False, 0, 0)):
                self.fails(BadDuty, call, (THREE, ONCE), duty)
            for clocks in (None, (), [], [ONCE], {}, "clocks", 3, True, (ONCE,) * 4, (None,) * 4, "abc", {1: 2}):
                self.fails(BadNumber, call, clocks, None)
            self.fails(BadClock, call, (None,), None, part="clock")
            self.fails(BadClock, call, (ONCE, changed(THREE, 0, 0), None), None, part="period")
            self.fails(BadClock, call, THREE[:3], None, part="clock")
            self.fails(BadClock, call, ((5, (1,), (), ((0,),), ()), THREE, 7), None, part="clock")
            # Here TooMany comes ahead of what is wrong with the duty: its length is that of the round.
            for duty in (None, (), (0,) * 15, (0,) * 12):
                self.fails(TooMany, call, (THREE, (5, (1,), (), ((0,),), ())), duty, most=12)


class BestDutyTest(Case):

    def plain_best(self, clocks, period):
        """Try all duties without None."""
        best = None
        for duty in itertools.product(range(len(clocks)), repeat=period):
            end = served_by(clocks, duty)
            if end is not None and (best is None or end < best[1]):
                best = (duty, end)
        return best

    def test_against_all_duties(self):
        none = 0
        for seed in range(120):
            clocks, period = some_clocks(seed, 3)
            if len(clocks) ** period <= 300:
                told = best_duty(clocks)
                self.assertEqual(told, self.plain_best(clocks, period), clocks)
                none += told is None
        self.assertTrue(10 < none < 80, none)

    def test_edges(self):
        self.assertEqual(best_duty((IDLE,)), ((0,), 0))
        self.assertEqual(best_duty((IDLE, (2, (0,), (), ((),), ()), IDLE)), ((0, 0), 0))
        self.assertEqual(best_duty((THREE,)), ((0, 0, 0), 7))
        self.assertEqual(best_duty((ROW,))[0], (0,) * 12)
        self.assertIsNone(best_duty((STUCK,)))
        self.assertEqual(best_duty((IDLE, ONCE)), ((1,), 1))
        nine = (9, (1,), (), (tuple(range(9)),), ())
        self.assertEqual(best_duty((nine, nine)), ((0, 1) + (0,) * 7, 2))
        six = (6, (1,), (), ((5,),), ())
        self.assertEqual(best_duty((ONCE, six, BOTH)), ((0, 0, 0, 0, 2, 1), 6))

    def test_wrong_arguments(self):
        for clocks in (None, (), [], [ONCE], {}, "clocks", 3, True, (ONCE,) * 4):
            self.fails(BadNumber, best_duty, clocks)
        self.fails(BadClock, best_duty, (ONCE, None), part="clock")
        self.fails(BadClock, best_duty, (ONCE, changed(THREE, 4, None)), part="book")
        self.fails(TooMany, best_duty, (THREE, (5, (1,), (), ((0,),), ())), most=12)
        # Of two clocks nine phases have 512 duties, ten 1024; of three clocks six have 729, seven 2187.
        for period in range(1, 13):
            clock = (period, (1,), (), ((0,),), ())
            self.assertEqual(best_duty((clock,)), ((0,) * period, 1))
            if period > 9:
                self.fails(TooMany, best_duty, (clock, ONCE), most=1000)
            if period > 6:
                self.fails(TooMany, best_duty, (clock, ONCE, IDLE), most=1000)


class LeastPhasesTest(Case):

    def plain_least(self, clock):
        """Try all tuples of phases, the shortest ones first."""
        for many in range(clock[0] + 1):
            for phases in itertools.combinations(range(clock[0]), many):
                shut = with_crew(clock, clock[0], phases)
                if all(row or not last for row, last in zip(shut[3], shut[1])) and earliest(shut) is not None:
                    return phases
        return None

    def test_against_all_phases(self):
        sizes = {}
        for clock in list(SAMPLES) + [some_clock(seed, 7, 4, 2) for seed in range(500)]:
            phases = least_phases(clock)
            self.assertEqual(phases, self.plain_least(clock), clock)
            size = None if phases is None else len(phases)
            sizes[size] = sizes.get(size, 0) + 1
        self.assertGreater(min([sizes.get(size, 0) for size in (None, 0, 1, 2, 3)]), 8, sizes)

    def test_edges(self):
        self.assertEqual([least_phases(IDLE), least_phases(STILL)], [(), ()])
        self.assertEqual([least_phases(ONCE), least_phases(BOTH)], [(0,), (0,)])
        self.assertEqual(least_phases(THREE), (0, 1, 2))
        self.assertIsNone(least_phases(STUCK))
        self.assertEqual(least_phases(ROW), tuple(range(12)))
        wide = (12, (2,) * 12, tuple((p, i, i + 1) for p in range(12) for i in range(11)),
                tuple((i, 11 - i) if i < 6 else (11 - i, i) for i in range(12)),
                tuple((i, a, i + 1, a) for i in range(11) for a in (1, 2)))
        self.assertEqual(least_phases(wide), (0, 1, 2, 3, 4, 5))

    def test_wrong_clocks(self):
        for value in JUNK:
            if value != ({}, {}, {}, {}, {}):
                self.fails(BadClock, least_phases, value, part="clock")
        self.fails(BadClock, least_phases, (1, (1,), (), ((),), ()), part="gaps")
