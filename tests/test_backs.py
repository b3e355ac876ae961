"""Points 53 to 57: mirrors, ways on and back, and the point of no return."""

import itertools
import random

from livingclock.backs import backwards, both_ways, led_back, led_on, longest_open, mirror, no_return
from livingclock.clocks import exchanges
from livingclock.earliest import earliest
from livingclock.errors import BadClock, BadNumber, BadPlan, BadStanding, BadTick, TooMany
from livingclock.lattices import latest, plans
from livingclock.middle import rest
from tests.samples import (
    CHASE, JUNK, LONE, PAIR, ROW, SKIPS, STILL, STUCK, THREE, Case, all_standings, plain_needed, plain_plans,
    plain_standing, plain_unfit, some_clock,
)

FAR = 10 ** 30
EXAMPLE = (2, (1, 1), ((0, 0, 1), (1, 0, 1)), ((0, 1), (1,)), ((0, 1, 1, 1),))
SAMPLES = (THREE, STUCK, PAIR, LONE, CHASE, SKIPS, STILL, EXAMPLE)
TICKS = (-1, FAR + 1, None, True, False, "0", (), (0,), [], {})
# Wheel 1 may go back only at phase 3, wheel 0 only at phase 1; they touch at phases 0 and 2.
SLOW = (4, (1, 1), ((0, 0, 1), (2, 0, 1)), ((1,), (3,)), ((0, 1, 1, 1),))


def tight_clock(seed):
    """Return a clock of three wheels with few gaps, so that it is not easily gone back."""
    chance = random.Random(seed)
    period = chance.randint(3, 6)
    editions = tuple(chance.randint(1, 2) for _ in range(3))
    pairs = ((0, 1), (0, 2), (1, 2))
    touches = tuple((phase, i, j) for phase in range(period) for i, j in pairs if chance.random() < 0.4)
    gaps = tuple(tuple(sorted(chance.sample(range(period), chance.choice((1, 1, 2))))) for _ in range(3))
    book = tuple(
        (i, a, j, chance.randint(1, editions[j])) for i in range(3) for a in range(1, editions[i] + 1)
        for j in range(3) if i != j and chance.random() < 0.5
    )
    return (period, editions, touches, gaps, book)


def moved(clock, tick, standing, goal):
    """Return the list of the standings behind a tick at which wheels go a step to a goal, all that touch fitting."""
    free = [i for i in range(len(goal)) if standing[i] != goal[i] and tick % clock[0] in clock[3][i]]
    found = []
    for many in range(len(free) + 1):
        for wheels in itertools.combinations(free, many):
            after = tuple(
                edition + (i in wheels) * (1 if goal[i] > edition else -1) for i, edition in enumerate(standing)
            )
            if not plain_unfit(clock, after, tick):
                found.append(after)
    return found


def able(clock, goal, standings):
    """Return the set of the pairs (phase, standing) from which all can come to a goal and fit for ever."""
    if any(plain_unfit(clock, goal, phase) for phase in range(clock[0])):
        return set()
    good = {(phase, goal) for phase in range(clock[0])}
    grown = True
    while grown:
        grown = False
        for phase in range(clock[0]):
            for standing in standings:
                if (phase, standing) not in good:
                    if any(((phase + 1) % clock[0], after) in good for after in moved(clock, phase, standing, goal)):
                        good.add((phase, standing))
                        grown = True
    return good


def between(clock, low, high):
    """Return the list of the standings between two."""
    return [
        standing for standing in all_standings(clock)
        if all(a <= b <= c for a, b, c in zip(low, standing, high))
    ]


def plain_way(clock, tick, standing, goal):
    """Return the earliest ticks of all steps to a goal, each over all ways to go; None if there is no way."""
    low, high = min(standing, goal, key=sum), max(standing, goal, key=sum)
    good = able(clock, goal, between(clock, low, high))
    if (tick % clock[0], standing) not in good:
        return None
    steps = [abs(last - edition) for last, edition in zip(goal, standing)]
    firsts, layer, now = {}, {standing}, tick
    while len(firsts) < sum(steps):
        layer = {
            after for before in layer for after in moved(clock, now, before, goal)
            if ((now + 1) % clock[0], after) in good
        }
        for after in layer:
            for wheel in range(len(goal)):
                for step in range(1, abs(after[wheel] - standing[wheel]) + 1):
                    firsts.setdefault((wheel, step), now)
        now += 1
    return tuple(tuple(firsts[(wheel, step)] for step in range(1, many + 1)) for wheel, many in enumerate(steps))


def ordered_pairs(clock, seed, many):
    """Return a list of so many pairs of standings, the first one nowhere above the second."""
    chance = random.Random(seed)
    found = []
    for _ in range(many):
        one, other = chance.choice(all_standings(clock)), chance.choice(all_standings(clock))
        found.append((tuple(map(min, one, other)), tuple(map(max, one, other))))
    return found


class ExamplesTest(Case):

    def test_examples(self):
        self.assertEqual(mirror(EXAMPLE)[4], ((1, 1, 0, 1),))
        self.assertEqual(led_back(EXAMPLE, 0, (1, 1), (0, 0)), ((0,), (1,)))
        self.assertIsNone(no_return(EXAMPLE, ((1,), (1,))))


class MirrorTest(Case):

    def test_wheels_fit_exactly_if_they_did(self):
        for clock in list(SAMPLES) + [some_clock(seed, 3, 3, 4) for seed in range(150)]:
            told = mirror(clock)
            self.assertEqual(told[:4], clock[:4])
            for standing in all_standings(clock):
                seen = tuple(last - edition for last, edition in zip(clock[1], standing))
                for phase in range(clock[0]):
                    self.assertEqual(plain_unfit(told, seen, phase), plain_unfit(clock, standing, phase))
                for i, j in itertools.permutations(range(len(standing)), 2):
                    # Wheels that never touch have their entries, too.
                    fits = plain_needed(clock, i, standing[i], j) <= standing[j]
                    self.assertIs(plain_needed(told, j, seen[j], i) <= seen[i], fits)

    def test_book(self):
        book = mirror(SKIPS)[4]
        self.assertEqual(mirror((1, (4, 3), (), ((0,), (0,)), SKIPS[4]))[4], book)
        self.assertEqual(book, ((0, 4, 1, 2), (1, 1, 0, 1), (1, 2, 0, 4), (1, 3, 0, 3)))
        # Of two entries that are alike in three parts the one with the greater fourth is left.
        twice = (1, (3, 2), ((0, 0, 1),), ((0,), (0,)), ((0, 1, 1, 2), (0, 2, 1, 2), (0, 3, 1, 2)))
        self.assertEqual(mirror(twice)[4], ((1, 1, 0, 3),))
        self.assertEqual(mirror(mirror(twice))[4], ((0, 1, 1, 2),))
        # Entries that say less than others are left as they are.
        loose = (1, (2, 2), ((0, 0, 1),), ((0,), (0,)), ((0, 1, 1, 2), (0, 2, 1, 1)))
        self.assertEqual(mirror(loose)[4], ((1, 1, 0, 2), (1, 2, 0, 1)))
        self.assertEqual(mirror(LONE), LONE)

    def test_the_third_mirror_is_the_first(self):
        for seed in range(300):
            clock = some_clock(seed, 2, 4, 4)
            self.assertEqual(mirror(mirror(mirror(clock))), mirror(clock))
            self.assertLessEqual(set(mirror(mirror(clock))[4]), set(clock[4]))


class BackwardsTest(Case):

    def test_parts(self):
        self.assertEqual(
            backwards(THREE),
            (3, (1, 1, 1), ((0, 0, 2), (1, 1, 2), (2, 0, 1)), ((0,), (2,), (1,)), ((1, 1, 0, 1), (2, 1, 1, 1))),
        )
        self.assertEqual(backwards(STILL)[2:4], (((0, 1, 2), (6, 0, 2)), ((), (8, 9), ())))
        for seed in range(100):
            clock = some_clock(seed, 6, 3, 3)
            self.assertEqual(backwards(clock)[4], mirror(clock)[4])
            self.assertEqual(backwards(backwards(clock))[:4], clock[:4])

    def test_the_latest_plan_is_the_earliest_backwards(self):
        found = 0
        for clock in list(SAMPLES) + [ROW] + [some_clock(seed, 5, 4, 3) for seed in range(300)]:
            plan = earliest(backwards(clock))
            if plan is None:
                self.assertIsNone(earliest(clock))
                continue
            last = max([tick for ticks in plan for tick in ticks], default=0)
            rounds = -(-last // clock[0]) * clock[0]
            for more in (rounds, rounds + clock[0], rounds + 3 * clock[0]):
                if more + 1 <= 60:
                    told = {}
                    for wheel, edition in exchanges(clock):
                        told[(wheel, edition)] = more - plan[wheel][clock[1][wheel] - edition]
                    ahead = latest(clock, more + 1)
                    for wheel, edition in exchanges(clock):
                        self.assertEqual(ahead[wheel][edition - 1], told[(wheel, edition)], (clock, more))
                    found += 1
        self.assertGreater(found, 300)

    def test_wrong_clocks(self):
        for call in (mirror, backwards):
            for value in JUNK:
                if value != ({}, {}, {}, {}, {}):
                    self.fails(BadClock, call, value, part="clock")
            self.fails(BadClock, call, ({}, {}, {}, {}, {}), part="period")
            self.fails(BadClock, call, (1, (1,), (), ((0,),), ((0, 1, 0, 1),)), part="book")


class LedTest(Case):

    def test_against_all_ways(self):
        ways = {"on": 0, "back": 0, "none": 0}
        for seed, clock in enumerate(list(SAMPLES) + [some_clock(seed, 4, 3, 2) for seed in range(150)]):
            for low, high in ordered_pairs(clock, seed, 6):
                tick = random.Random(seed).randint(0, 20)
                on, back = led_on(clock, tick, low, high), led_back(clock, tick, high, low)
                self.assertEqual(on, plain_way(clock, tick, low, high), (clock, tick, low, high))
                self.assertEqual(back, plain_way(clock, tick, high, low), (clock, tick, high, low))
                ways["on"] += low != high and on is not None
                ways["back"] += low != high and back is not None
                ways["none"] += on is None
        self.assertGreater(min(ways.values()), 100, ways)

    def test_on_to_the_last_is_the_rest(self):
        for clock in SAMPLES + (ROW,):
            for standing in all_standings(clock)[:40]:
                for tick in (0, 1, 7, FAR):
                    self.assertEqual(led_on(clock, tick, standing, clock[1]), rest(clock, tick, standing))

    def test_edges(self):
        self.assertEqual(led_on(LONE, FAR, (0,), (0,)), ((),))
        self.assertEqual(led_on(THREE, 5, (0, 0, 0), (0, 0, 0)), ((), (), ()))
        self.assertEqual(led_back(THREE, 5, (1, 1, 1), (1, 1, 1)), ((), (), ()))
        # A goal that doesn't fit for ever can't be come to, even if it is there.
        self.assertIsNone(led_on(THREE, 5, (1, 0, 0), (1, 0, 0)))
        self.assertIsNone(led_back(THREE, 5, (1, 0, 0), (1, 0, 0)))
        self.assertIsNone(led_on(THREE, 0, (0, 0, 0), (1, 1, 0)))
        self.assertEqual(led_on(THREE, 0, (0, 0, 0), (0, 1, 1)), ((), (4,), (2,)))
        self.assertEqual(led_on(THREE, FAR, (0, 0, 0), (0, 0, 1)), ((), (), (FAR + 1,)))
        # An edition on the way needs more than the goal has, though only of a wheel that is never touched.
        apart = (1, (2, 2), (), ((0,), (0,)), ((0, 1, 1, 2),))
        self.assertEqual(led_on(apart, 3, (0, 0), (2, 1)), ((3, 4), (3,)))
        self.assertEqual(led_back(apart, 3, (2, 2), (1, 0)), ((3,), (3, 4)))
        self.assertEqual(led_back(SLOW, 0, (1, 1), (0, 0)), ((1,), (3,)))
        self.assertEqual(led_back(SLOW, 2, (1, 1), (0, 0)), ((5,), (7,)))
        self.assertIsNone(led_back(SLOW, 2, (1, 0), (0, 0)))
        self.assertEqual(led_back(SLOW, 1, (1, 0), (0, 0)), ((1,), ()))

    def test_wrong_arguments(self):
        for call in (led_on, led_back):
            for value in JUNK + ((0, 0), (0, 0, 2), (0, 0, True), [0, 0, 0]):
                self.fails(BadStanding, call, THREE, 0, (0, 0, 0), value)
                self.fails(BadStanding, call, THREE, 0, value, (0, 0, 0))
            for tick in TICKS:
                self.fails(BadTick, call, THREE, tick, None, None)
            self.fails(BadClock, call, None, -1, None, None, part="clock")
        self.fails(BadStanding, led_on, THREE, 0, (0, 0, 1), (0, 0, 0))
        self.fails(BadStanding, led_on, THREE, 0, (0, 0, 1), (1, 1, 0))
        self.fails(BadStanding, led_back, THREE, 0, (0, 0, 0), (0, 0, 1))
        self.fails(BadStanding, led_back, THREE, 0, (1, 1, 0), (0, 0, 1))


class BothWaysTest(Case):

    def test_against_all_ways(self):
        many = 0
        for seed, clock in enumerate(list(SAMPLES) + [some_clock(seed, 4, 3, 2) for seed in range(120)]):
            standings, none = all_standings(clock), (0,) * len(clock[1])
            ahead, back = able(clock, clock[1], standings), able(clock, none, standings)
            for tick in (0, 1, 2, 3, 10 + seed):
                phase = tick % clock[0]
                told = [s for s in standings if (phase, s) in ahead and (phase, s) in back]
                self.assertEqual(both_ways(clock, tick), tuple(told), (clock, tick))
                many += 0 < len(told) < len(standings)
        self.assertGreater(many, 50)

    def test_edges(self):
        self.assertEqual(both_ways(LONE, FAR), ((0,),))
        self.assertEqual(both_ways(STUCK, 0), ())
        free = (1, (4, 4, 4, 1, 1, 1), (), ((0,),) * 6, ())
        self.assertEqual(both_ways(free, 0), tuple(all_standings(free)))
        self.assertEqual(len(both_ways(free, 5)), 1000)
        for editions in ((4, 4, 4, 4, 1), (1,) * 10, (4,) * 5):
            wide = (2, editions, (), ((0,),) * len(editions), ())
            self.fails(TooMany, both_ways, wide, 0, most=1000)
            self.fails(BadTick, both_ways, wide, -1)

    def test_wrong_arguments(self):
        for tick in TICKS:
            self.fails(BadTick, both_ways, THREE, tick)
        self.fails(BadClock, both_ways, None, -1, part="clock")


class NoReturnTest(Case):

    def plain_no_return(self, clock, plan, back):
        """Ask tick after tick."""
        last = max([tick for ticks in plan for tick in ticks], default=0)
        for tick in range(1, last + clock[0] + 2):
            if (tick % clock[0], plain_standing(plan, tick - 1)) not in back:
                return tick
        return None

    def test_against_all_ways(self):
        points, later = [], 0
        clocks = list(SAMPLES) + [SLOW] + [tight_clock(seed) for seed in range(300)]
        for seed, clock in enumerate(clocks + [some_clock(seed, 4, 3, 2) for seed in range(60)]):
            before = random.Random(seed).randint(8, 13)
            found = plain_plans(clock, before)
            if not found or len(found) > 200:
                continue
            back = able(clock, (0,) * len(clock[1]), all_standings(clock))
            told = [self.plain_no_return(clock, plan, back) for plan in found]
            for plan, tick in zip(found, told):
                self.assertEqual(no_return(clock, plan), tick, (clock, plan))
            most = max(told, key=lambda tick: FAR if tick is None else tick)
            self.assertEqual(longest_open(clock, before), (found[told.index(most)], most), (clock, before))
            points.extend(told)
            later += told.index(most) > 0
        self.assertGreater(len([tick for tick in points if tick is None]), 300)
        self.assertGreater(len([tick for tick in points if tick is not None]), 300)
        self.assertGreater(later, 20)

    def test_edges(self):
        self.assertIsNone(no_return(LONE, ((),)))
        self.assertEqual(longest_open(LONE, 1), (((),), None))
        self.assertIsNone(longest_open(STUCK, 60))
        self.assertIsNone(longest_open(THREE, 6))
        # The wheels touch at each tick; back they go in the other order than on.
        once = (2, (1, 1), ((0, 0, 1), (1, 0, 1)), ((0,), (1,)), ((0, 1, 1, 1),))
        self.assertIsNone(no_return(once, ((2,), (1,))))
        self.assertIsNone(no_return(once, ((100000,), (99999,))))

    def test_far_plans(self):
        tied = (3, (1, 1), ((0, 0, 1), (1, 0, 1)), ((0,), (0, 2)), ((0, 1, 1, 1),))
        clock = (3, (1, 1, 1), ((0, 0, 1), (1, 1, 2), (2, 0, 2)), ((0,), (1,), (2,)), ((0, 1, 1, 1), (1, 1, 2, 1)))
        back = able(clock, (0, 0, 0), all_standings(clock))
        for plan in (((6,), (4,), (2,)), ((30000,), (20002,), (50,)), ((99999,), (99997,), (99995,))):
            self.assertEqual(no_return(clock, plan), self.plain_no_return(clock, plan, back))
        back = able(tied, (0, 0), all_standings(tied))
        for plan in (((0,), (0,)), ((99999,), (2,)), ((99999,), (99998,))):
            self.assertEqual(no_return(tied, plan), self.plain_no_return(tied, plan, back))

    def test_wrong_arguments(self):
        for value in JUNK + (((6,), (4,)), [(6,), (4,), (2,)]):
            if not isinstance(value, tuple) or len(value) != 3:
                self.fails(BadPlan, no_return, THREE, value, wheel=None)
        self.fails(BadPlan, no_return, THREE, ((0,), (4,), (2,)), wheel=None)
        self.fails(BadPlan, no_return, THREE, ((6,), (5,), (2,)), wheel=1)
        self.fails(BadPlan, no_return, THREE, ((6,), (5,), None), wheel=1)
        self.fails(BadPlan, no_return, THREE, ((6,), (4,), (True,)), wheel=2)
        self.fails(BadClock, no_return, None, None, part="clock")
        for before in (0, -1, 61, FAR, None, True, False, "3", (), (3,), [], {}):
            self.fails(BadNumber, longest_open, THREE, before)
        self.fails(BadClock, longest_open, None, 0, part="clock")

    def test_too_many_plans(self):
        free = (1, (1,) * 3, (), ((0,),) * 3, ())
        self.assertEqual(longest_open(free, 10), (((0,), (0,), (0,)), None))
        self.assertEqual(len(plans(free, 10)), 1000)
        self.fails(TooMany, longest_open, free, 11, most=1000)
