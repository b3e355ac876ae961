"""Point 14: tolls, and the courses that cost least."""

import random

from livingclock.courses import ending
from livingclock.errors import BadClock, BadNumber, BadStanding, BadTick, BadTolls, TooMany
from livingclock.tolls import cheapest_course, least_toll, shows_cheapest_course, toll
from tests.samples import (
    CHASE, JUNK, LONE, PAIR, SKIPS, STILL, STUCK, THREE, Case, all_standings, changed, deeds, nested, some_clock,
)

FAR = 10 ** 30
EXAMPLE = (2, (1, 1), ((0, 0, 1),), ((0, 1), (0, 1)), ((0, 1, 1, 1),))
COSTS = ((5, 1), (2, 9))
THREES = ((0, 0), (1, 2), (3, 1000))
GREAT = (5, (4, 4, 4, 4, 1), (), ((0,),) * 5, ())
SAMPLES = (THREE, STUCK, PAIR, LONE, CHASE, SKIPS, STILL, EXAMPLE)
HANDS = (None, True, False, -1, 13, FAR, "1", (), (1,), [], {})
WRONG_TOLLS = JUNK + (
    ((0, 0), (1, 2)), ((0, 0), (1, 2), (3,)), ((0, 0), (1, 2), (3, 1, 1)), ((0, 0), (1, 2), (3, 1001)),
    ((0, 0), (1, 2), (-1, 1)), ((0, 0), (1, 2), (3, True)), ((0, 0), (1, 2), (3, None)), ((0, 0), (1, 2), [3, 1]),
    [(0, 0), (1, 2), (3, 1)], ((0, 0), (1, 2), (3, "1")), ((0, 0), (1, 2), 3), ((0, 0), (1, 2), (3, 1), (0, 0)),
)


def some_tolls(seed, clock):
    """Return tolls of a clock, many of them 0 for some seeds."""
    chance = random.Random(seed)
    most = chance.choice((0, 1, 3, 1000))
    return tuple(tuple(chance.choice((0, chance.randint(0, most))) for _ in range(last + 1)) for last in clock[1])


def cost(tolls, standing):
    """Return what the wheels cost with these editions."""
    return sum(tolls[wheel][edition] for wheel, edition in enumerate(standing))


def plain_costs(clock, hands, tolls):
    """Return a dict of the least tolls of all pairs (phase, standing) with a course, by asking all again and again."""
    found = {(phase, clock[1]): 0 for phase in range(clock[0])}
    grown = True
    while grown:
        grown = False
        for standing in all_standings(clock):
            for phase in range(clock[0]):
                for wheels, after in deeds(clock, phase, standing):
                    behind = ((phase + 1) % clock[0], after)
                    if standing != clock[1] and len(wheels) <= hands and behind in found:
                        total = cost(tolls, after) + found[behind]
                        if total < found.get((phase, standing), FAR):
                            found[(phase, standing)] = total
                            grown = True
    return found


def cost_of_course(clock, tick, standing, hands, tolls, course):
    """Return what a course to the last editions costs, None if it is none or doesn't end with the last exchange."""
    total = 0
    for place, deed in enumerate(course):
        found = [after for wheels, after in deeds(clock, tick + place, standing) if wheels == deed]
        if not found or len(deed) > hands or standing == clock[1]:
            return None
        standing = found[0]
        total += cost(tolls, standing)
    return total if standing == clock[1] else None


class ExamplesTest(Case):

    def test_examples(self):
        self.assertEqual(toll(EXAMPLE, COSTS, (0, 1)), 14)
        self.assertEqual(least_toll(EXAMPLE, 0, (0, 0), 1, COSTS), 20)
        self.assertEqual(cheapest_course(EXAMPLE, 0, (0, 0), 1, COSTS), ((), (0,), (1,)))
        self.assertIsNone(least_toll(EXAMPLE, 0, (0, 0), 0, COSTS))
        self.assertIs(shows_cheapest_course(EXAMPLE, 0, (0, 0), 2, COSTS, ((0, 1),)), True)


class TollTest(Case):

    def test_sums(self):
        self.assertEqual([toll(THREE, THREES, (0, 0, 0)), toll(THREE, THREES, (1, 1, 1))], [4, 1002])
        self.assertEqual(toll(LONE, ((1000,),), (0,)), 1000)
        for seed in range(30):
            clock = some_clock(seed, 3, 3, 4)
            tolls = some_tolls(seed, clock)
            for standing in all_standings(clock):
                self.assertEqual(toll(clock, tolls, standing), cost(tolls, standing))

    def test_wrong_arguments(self):
        for standing in JUNK + ((0, 0), (0, 0, 2), (0, 0, True), [0, 0, 0]):
            self.fails(BadStanding, toll, THREE, THREES, standing)
        for tolls in WRONG_TOLLS:
            self.fails(BadTolls, toll, THREE, tolls, None)
        self.fails(BadClock, toll, None, None, None, part="clock")
        # No more pairs than 4000 are asked of courses only.
        self.assertEqual(toll(GREAT, ((1,) * 5,) * 4 + ((2, 3),), (0, 1, 2, 3, 1)), 7)


class CheapestTest(Case):

    def test_against_all_courses(self):
        counts = {"none": 0, "nothing": 0, "free": 0, "dear": 0}
        for seed, clock in enumerate(list(SAMPLES) + [some_clock(seed, 4, 3, 2) for seed in range(200)]):
            tolls = some_tolls(seed, clock)
            for hands in (1, random.Random(seed).choice((0, 2, 12))):
                known = plain_costs(clock, hands, tolls)
                chance = random.Random(seed)
                for standing in chance.sample(all_standings(clock), min(4, len(all_standings(clock)))):
                    tick = chance.randint(0, 30)
                    self.compare(clock, tick, standing, hands, tolls, known, counts)
        self.assertGreater(min(counts.values()), 30, counts)

    def compare(self, clock, tick, standing, hands, tolls, known, counts):
        """Ask for a cheapest course and hold it against what is known."""
        told = (clock, tick, standing, hands, tolls)
        least = known.get((tick % clock[0], standing))
        self.assertEqual(least_toll(*told), least, told)
        course = cheapest_course(*told)
        self.assertIs(shows_cheapest_course(*told, None), least is None)
        self.assertIs(shows_cheapest_course(*told, course), True)
        if least is None:
            self.assertIsNone(course, told)
            counts["none"] += 1
            return
        self.assertEqual(cost_of_course(*told, course), least, told)
        counts["nothing"] += course == ()
        counts["free"] += least == 0 and course != ()
        counts["dear"] += least > 0
        for place in range(len(course) + 1):
            # A tick more or less, or another deed, is a cheapest course only if it can be done and costs the same.
            for other in (
                course[:place] + ((),) + course[place:], course[:place] + course[place + 1:],
                course[:place] + ((0,),) + course[place + 1:], course[:place] + ((0, 1),) + course[place + 1:],
            ):
                right = cost_of_course(*told, other) == least
                self.assertIs(shows_cheapest_course(*told, other), right, (told, other))

    def test_where_there_is_a_course(self):
        for clock in SAMPLES:
            tolls = tuple((7,) * (last + 1) for last in clock[1])
            for hands in (0, 1, 12):
                pairs = ending(clock, hands)
                for phase in range(clock[0]):
                    for standing in all_standings(clock):
                        told = least_toll(clock, phase + 5 * clock[0], standing, hands, tolls)
                        self.assertIs(told is not None, (phase, standing) in pairs)

    def test_edges(self):
        self.assertEqual(cheapest_course(LONE, FAR, (0,), 0, ((3,),)), ())
        self.assertEqual(least_toll(LONE, FAR, (0,), 0, ((3,),)), 0)
        self.assertEqual(least_toll(THREE, 7, (1, 1, 1), 0, THREES), 0)
        self.assertIsNone(cheapest_course(STUCK, 0, (0, 0), 12, ((0, 0), (0, 0))))
        self.assertEqual(cheapest_course(THREE, 4, (0, 0, 1), 12, ((0, 9), (0, 0), (0, 0))), ((1,), (), (0,)))
        # Wheel 1 is cheaper with its old edition as long as there is something else to do, and no longer.
        slow = (1, (2, 1), (), ((0,), (0,)), ())
        self.assertEqual(cheapest_course(slow, 0, (0, 0), 12, ((9, 9, 0), (1, 5))), ((0,), (0, 1)))
        self.assertEqual(least_toll(slow, 0, (0, 0), 12, ((9, 9, 0), (1, 5))), 15)

    def test_courses_that_wait_for_nothing(self):
        free = ((0, 0), (0, 0))
        for many in (0, 1, 100, 398, 399, 400, 401, 1000):
            course = ((),) * many + ((0, 1),)
            told = shows_cheapest_course(EXAMPLE, FAR, (0, 0), 2, free, course)
            self.assertIs(told, many + 1 <= 400, many)
        done = ((0, 1), ())
        self.assertIs(shows_cheapest_course(EXAMPLE, 0, (0, 0), 2, free, done), False)
        self.assertIs(shows_cheapest_course(EXAMPLE, 0, (1, 1), 2, free, ((),)), False)
        self.assertIs(shows_cheapest_course(EXAMPLE, 0, (1, 1), 2, free, ()), True)
        self.assertIs(shows_cheapest_course(EXAMPLE, 0, (0, 0), 1, free, ((0, 1),)), False)
        self.assertIs(shows_cheapest_course(EXAMPLE, 0, (0, 0), 1, free, ((1,), (0,))), True)
        self.assertIs(shows_cheapest_course(EXAMPLE, 0, (0, 0), 1, free, ((0,), (1,))), False)
        self.assertIs(shows_cheapest_course(EXAMPLE, 0, (0, 0), 0, free, None), True)
        self.assertIs(shows_cheapest_course(EXAMPLE, 0, (0, 0), 1, free, None), False)

    def test_any_value_is_shown_or_not(self):
        for value in JUNK + (((0, True),), ((1, 0),), ((0, 0),), ([0, 1],), ((0, 1), None), nested(20000), ((0, 2),)):
            self.assertIs(shows_cheapest_course(EXAMPLE, 0, (0, 0), 2, COSTS, value), False)

    def test_wide_clock(self):
        wide = (1, (1,) * 11, tuple((0, i, i + 1) for i in range(10)), ((0,),) * 11,
                tuple((i, 1, i + 1, 1) for i in range(10)))
        self.assertEqual(least_toll(wide, 0, (0,) * 11, 1, ((1, 0),) * 11), 55)

    def test_wrong_arguments(self):
        for call, more in ((cheapest_course, ()), (least_toll, ()), (shows_cheapest_course, (None,))):
            for tolls in WRONG_TOLLS:
                self.fails(BadTolls, call, THREE, 0, (0, 0, 0), 1, tolls, *more)
                self.fails(BadTolls, call, GREAT, 0, (0,) * 5, 1, tolls, *more)
            for hands in HANDS:
                self.fails(BadNumber, call, THREE, 0, (0, 0, 0), hands, None, *more)
            for standing in JUNK + ((0, 0), (0, 0, 2), (0, 0, True), [0, 0, 0]):
                self.fails(BadStanding, call, THREE, 0, standing, -1, None, *more)
            for tick in (-1, FAR + 1, None, True, False, "0", (), (0,), [], {}):
                self.fails(BadTick, call, THREE, tick, None, -1, None, *more)
            self.fails(BadClock, call, None, -1, None, -1, None, *more, part="clock")
            self.fails(BadClock, call, changed(THREE, 2, None), -1, None, -1, None, *more, part="touches")

    def test_too_many(self):
        tolls = ((0,) * 5,) * 4 + ((0, 0),)
        for call, more in ((cheapest_course, ()), (least_toll, ()), (shows_cheapest_course, (None,))):
            self.fails(TooMany, call, GREAT, 0, (0,) * 5, 1, tolls, *more, most=4000)
            self.fails(TooMany, call, GREAT, 0, GREAT[1], 1, tolls, *more, most=4000)
        full = (5, (4, 4, 3, 3, 1), (), ((0,),) * 5, ())
        self.assertEqual(least_toll(full, 0, (0,) * 5, 12, ((1,) * 5,) * 2 + ((0,) * 4,) * 2 + ((0, 0),)), 32)
