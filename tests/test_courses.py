"""Points 11 and 12: what can be done with so many hands, and the shortest courses."""

import itertools
import random

from livingclock.courses import ending, next_standings, shortest, shows_shortest, standings
from livingclock.errors import BadClock, BadNumber, BadPhase, BadStanding, BadTick, TooMany
from livingclock.middle import rest
from tests.samples import (
    CHASE, JUNK, LONE, PAIR, ROW, SKIPS, STILL, STUCK, THREE, Case, all_standings, changed, deeds, some_clock,
)

FAR = 10 ** 30
TWO = (2, (1, 1), ((0, 0, 1),), ((0,), (0,)), ((0, 1, 1, 1),))
HANDS = (None, True, False, -1, 13, FAR, "1", (), (1,), [], {})
SAMPLES = (THREE, STUCK, PAIR, LONE, CHASE, SKIPS, STILL, TWO)


def steps(clock, tick, standing, hands):
    """Return the list of the pairs of deeds of so many hands and the standings behind them."""
    return [(wheels, after) for wheels, after in deeds(clock, tick, standing) if len(wheels) <= hands]


def plain_least(clock, tick, standing, hands):
    """Return how many deeds lead to the last editions at least, by all ways of going on; None if none do."""
    layer, seen, many = {standing}, set(), 0
    while layer:
        if clock[1] in layer:
            return many
        behind = set()
        for before in layer:
            place = ((tick + many) % clock[0], before)
            if place not in seen:
                seen.add(place)
                behind.update(after for _, after in steps(clock, tick + many, before, hands))
        layer = behind
        many += 1
    return None


def plain_is_course(clock, tick, standing, hands, course):
    """Tell whether all deeds of a course can be done one after the other up to the last editions."""
    for place, deed in enumerate(course):
        found = [after for wheels, after in steps(clock, tick + place, standing, hands) if wheels == deed]
        if not found:
            return False
        standing = found[0]
    return standing == clock[1]


def some_moments(many, **limits):
    """Return a list of tuples: a clock, a tick, a standing, hands."""
    told = []
    for seed in range(many):
        chance = random.Random(seed)
        clock = some_clock(seed, **limits)
        standing = chance.choice(all_standings(clock) + [(0,) * len(clock[1])] * 20)
        told.append((clock, chance.randint(0, 30), standing, chance.randint(0, 4)))
    return told


class ExamplesTest(Case):

    def test_examples(self):
        self.assertEqual(next_standings(THREE, 2, (0, 0, 0), 1), ((0, 0, 0), (0, 0, 1)))
        self.assertEqual(len(shortest(THREE, 0, (0, 0, 0), 6)), 7)
        self.assertEqual(shortest(THREE, 4, (0, 0, 1), 1), ((1,), (), (0,)))
        self.assertEqual(shortest(TWO, 0, (0, 0), 2), ((0, 1),))
        self.assertEqual(
            standings(TWO, 1),
            ((0, (0, 0)), (0, (0, 1)), (0, (1, 1)), (1, (0, 0)), (1, (0, 1)), (1, (1, 1))),
        )
        self.assertEqual(ending(TWO, 0), ((0, (1, 1)), (1, (1, 1))))


class NextStandingsTest(Case):

    def test_against_all_deeds(self):
        for clock in SAMPLES + tuple(some_clock(seed, 4, 4, 2) for seed in range(60)):
            for phase in range(clock[0]):
                for standing in all_standings(clock)[:60]:
                    for hands in (0, 1, 2, 12):
                        told = tuple(sorted(after for _, after in steps(clock, phase, standing, hands)))
                        self.assertEqual(next_standings(clock, phase, standing, hands), told)

    def test_edges(self):
        self.assertEqual(next_standings(TWO, 0, (1, 0), 0), ())
        self.assertEqual(next_standings(TWO, 0, (1, 0), 1), ((1, 1),))
        self.assertEqual(next_standings(TWO, 1, (1, 0), 1), ((1, 0),))
        self.assertEqual(next_standings(TWO, 0, (0, 0), 1), ((0, 0), (0, 1)))
        self.assertEqual(next_standings(TWO, 0, (0, 0), 2), ((0, 0), (0, 1), (1, 1)))
        self.assertEqual(next_standings(STILL, 3, (0, 0, 0), 12), ((0, 0, 0),))
        wide = (1, (2,) * 12, (), ((0,),) * 12, ())
        self.assertEqual(len(next_standings(wide, 0, (0,) * 12, 12)), 4096)
        self.assertEqual(len(next_standings(wide, 0, (1,) * 12, 2)), 1 + 12 + 66)

    def test_wrong_arguments(self):
        for hands in HANDS:
            self.fails(BadNumber, next_standings, THREE, 0, (0, 0, 0), hands)
        for standing in JUNK + ((0, 0), (0, 0, 2), (0, 0, True), [0, 0, 0]):
            self.fails(BadStanding, next_standings, THREE, 0, standing, -1)
        for phase in (-1, 3, FAR, None, True, False, "0", (), [], {}):
            self.fails(BadPhase, next_standings, THREE, phase, None, -1)
        self.fails(BadClock, next_standings, None, -1, None, -1, part="clock")


class ShortestTest(Case):

    def test_against_all_ways(self):
        counts = {"none": 0, "nothing": 0, "waited": 0, "long": 0}
        for clock, tick, standing, hands in some_moments(600, most_period=5, most_wheels=4, most_edition=3):
            least = plain_least(clock, tick, standing, hands)
            course = shortest(clock, tick, standing, hands)
            if least is None:
                self.assertIsNone(course, (clock, tick, standing, hands))
                counts["none"] += 1
                continue
            self.assertEqual(len(course), least, (clock, tick, standing, hands))
            self.assertTrue(plain_is_course(clock, tick, standing, hands, course), (clock, tick, standing, hands))
            counts["nothing"] += least == 0
            counts["long"] += least > 5
            # Such that fewer hands make it longer than the rest would.
            counts["waited"] += least > len(shortest(clock, tick, standing, 12))
        for name, many in counts.items():
            self.assertGreater(many, 20, name)

    def test_with_few_hands(self):
        waited = 0
        for seed in range(500):
            clock = some_clock(seed, most_period=5, most_wheels=5, most_edition=4)
            standing = (0,) * len(clock[1])
            if len(clock[1]) < 3 or rest(clock, seed % 7, standing) is None:
                continue
            for hands in (1, 2):
                tick = seed % 7
                least = plain_least(clock, tick, standing, hands)
                course = shortest(clock, tick, standing, hands)
                self.assertEqual(None if course is None else len(course), least, (clock, tick, hands))
                if course is not None:
                    self.assertTrue(plain_is_course(clock, tick, standing, hands, course))
                    waited += least > len(shortest(clock, tick, standing, 12))
        self.assertGreater(waited, 60)

    def test_with_all_hands_it_is_the_rest(self):
        for clock, tick, standing, _ in some_moments(150):
            told = rest(clock, tick, standing)
            course = shortest(clock, tick, standing, 12)
            self.assertEqual(course is None, told is None)
            if told is not None:
                last = max([ticks[-1] for ticks in told if ticks], default=tick - 1)
                self.assertEqual(len(course), last + 1 - tick)
                self.assertTrue(shows_shortest(clock, tick, standing, 12, course))

    def test_edges(self):
        self.assertEqual(shortest(LONE, FAR, (0,), 0), ())
        self.assertEqual(shortest(THREE, 5, (1, 1, 1), 0), ())
        self.assertIsNone(shortest(THREE, 5, (1, 1, 0), 0))
        self.assertIsNone(shortest(STUCK, 0, (0, 0), 12))
        # The tick 10 ** 30 has the phase 1.
        self.assertEqual(shortest(THREE, FAR, (0, 1, 1), 1), ((), (), (0,)))

    def test_two_that_must_go_together(self):
        clock = (1, (1, 1), ((0, 0, 1),), ((0,), (0,)), ((0, 1, 1, 1), (1, 1, 0, 1)))
        self.assertEqual(shortest(clock, 0, (0, 0), 2), ((0, 1),))
        self.assertIsNone(shortest(clock, 0, (0, 0), 1))
        self.assertEqual(shortest(clock, 0, (1, 0), 1), ((1,),))

    def test_one_that_must_wait_for_a_hand(self):
        clock = (3, (1, 1, 1), (), ((0,), (0,), (0, 1)), ())
        self.assertEqual(len(shortest(clock, 0, (0, 0, 0), 1)), 4)
        self.assertEqual(shortest(clock, 0, (0, 0, 0), 2), ((0, 1), (2,)))
        self.assertEqual(shortest(clock, 0, (0, 0, 0), 3), ((0, 1, 2),))

    def test_great_clocks(self):
        wide = (1, (2,) * 12, (), ((0,),) * 12, ())
        for hands in range(1, 13):
            course = shortest(wide, 0, (0,) * 12, hands)
            self.assertEqual(len(course), -(-24 // hands))
            self.assertTrue(shows_shortest(wide, 0, (0,) * 12, hands, course))
        slow = (12, (2,) * 12, (), ((7,),) * 12, ())
        self.assertEqual(len(shortest(slow, 0, (0,) * 12, 1)), 8 + 12 * 23)
        self.assertEqual(len(shortest(slow, 8, (0,) * 12, 5)), 12 * 5)
        self.assertEqual(len(shortest(ROW, 0, (0,) * 12, 1)), len(shortest(ROW, 0, (0,) * 12, 12)))

    def test_wrong_arguments(self):
        for call, more in ((shortest, ()), (shows_shortest, ((),))):
            for hands in HANDS:
                self.fails(BadNumber, call, THREE, 0, (1, 1, 1), hands, *more)
            for standing in JUNK + ((0, 0), (0, 0, 2), (0, 0, True), [0, 0, 0]):
                self.fails(BadStanding, call, THREE, 0, standing, -1, *more)
            for tick in (-1, FAR + 1, None, True, "0", (), [], {}):
                self.fails(BadTick, call, THREE, tick, None, -1, *more)
            self.fails(BadClock, call, (3, (1,), (), ((),), ()), -1, None, -1, *more, part="gaps")


class ShowsShortestTest(Case):

    def test_all_courses_of_a_length(self):
        shown = 0
        for clock, tick, standing, hands in some_moments(60, most_period=3, most_wheels=3, most_edition=1):
            least = plain_least(clock, tick, standing, hands)
            self.assertIs(shows_shortest(clock, tick, standing, hands, None), least is None)
            wheels = range(len(standing))
            deed_list = [deed for many in range(3) for deed in itertools.combinations(wheels, many)]
            for many in range(4):
                for course in itertools.product(deed_list, repeat=many):
                    told = many == least and plain_is_course(clock, tick, standing, hands, course)
                    self.assertIs(shows_shortest(clock, tick, standing, hands, course), told)
                    shown += told
        self.assertGreater(shown, 40)

    def test_values_that_are_no_courses(self):
        right = ((1,), (), (0,))
        self.assertIs(shows_shortest(THREE, 4, (0, 0, 1), 1, right), True)
        wrong = (
            [(1,), (), (0,)], ((1,), (), [0]), ((1,), (), (0,), ()), ((), (1,), (0,)), ((1,), (), (False,)),
            ((True,), (), (0,)), ((1,), (), (0, 0)), ((1,), (), (0, 2)), ((1,), (), ("0",)), ((1,), None, (0,)),
            ((1,), (), (3,)), ((1,), (), (-1,)), ((1,), (), (None,)), ((1,), (), ([0],)), (1, (), 0), "abc",
            ((1,), (), ((0,),)), {0: (1,)}, (), None, ((1,),), ((0,), (), (1,)),
        )
        for value in wrong + JUNK:
            self.assertIs(shows_shortest(THREE, 4, (0, 0, 1), 1, value), False)
        self.assertIs(shows_shortest(TWO, 0, (0, 0), 2, ((0, 1),)), True)
        self.assertIs(shows_shortest(TWO, 0, (0, 0), 2, ((1, 0),)), False)

    def test_longer_ones(self):
        longer = ((1,), (), ()) + ((), (), (0,))
        self.assertTrue(plain_is_course(THREE, 4, (0, 0, 1), 1, longer))
        self.assertIs(shows_shortest(THREE, 4, (0, 0, 1), 1, longer), False)
        self.assertIs(shows_shortest(LONE, 0, (0,), 1, ()), True)
        self.assertIs(shows_shortest(LONE, 0, (0,), 1, ((),)), False)
        self.assertIs(shows_shortest(LONE, 0, (0,), 1, None), False)

    def test_too_many_hands(self):
        self.assertIs(shows_shortest(TWO, 0, (0, 0), 1, ((0, 1),)), False)
        self.assertIs(shows_shortest(TWO, 0, (0, 0), 1, ((1,), (), (0,))), True)


class StandingsTest(Case):

    def test_against_all_ways(self):
        for clock in SAMPLES + tuple(some_clock(seed) for seed in range(80)):
            for hands in (0, 1, 2, 12):
                seen = {(0, (0,) * len(clock[1]))}
                grown = True
                while grown:
                    more = {
                        ((phase + 1) % clock[0], after)
                        for phase, standing in seen for _, after in steps(clock, phase, standing, hands)
                    }
                    grown = not more <= seen
                    seen |= more
                self.assertEqual(standings(clock, hands), tuple(sorted(seen)))

    def test_edges(self):
        self.assertEqual(standings(LONE, 0), ((0, (0,)),))
        self.assertEqual(standings((3, (1,), (), ((1,),), ()), 0), ((0, (0,)), (1, (0,)), (2, (0,))))
        self.assertEqual(
            standings((2, (1,), (), ((1,),), ()), 1), ((0, (0,)), (0, (1,)), (1, (0,)), (1, (1,))),
        )


class EndingTest(Case):

    def test_against_all_ways(self):
        for clock in SAMPLES + tuple(some_clock(seed) for seed in range(40)):
            for hands in (0, 1, 2, 12):
                told = tuple(
                    (phase, standing) for phase in range(clock[0]) for standing in all_standings(clock)
                    if plain_least(clock, phase, standing, hands) is not None
                )
                self.assertEqual(ending(clock, hands), told)

    def test_edges(self):
        self.assertEqual(ending(LONE, 0), ((0, (0,)),))
        self.assertEqual(ending(TWO, 1), tuple((phase, pair) for phase, pair in (
            (0, (0, 0)), (0, (0, 1)), (0, (1, 0)), (0, (1, 1)), (1, (0, 0)), (1, (0, 1)), (1, (1, 0)), (1, (1, 1)),
        )))
        # Of the clock that is stuck only what stands beyond the ring ends well.
        self.assertEqual(ending(STUCK, 2), ((0, (0, 1)), (0, (1, 1)), (1, (1, 0)), (1, (1, 1))))


class ManyPairsTest(Case):

    def test_limits(self):
        most = (8, (4, 4, 4, 1, 1), (), ((0,),) * 5, ())
        more = changed(most, 0, 9)
        for call in (standings, ending):
            self.assertEqual(len(call(changed(most, 3, (tuple(range(8)),) * 5), 1)), 4000)
            call(most, 0)
            self.fails(TooMany, call, more, 0, most=4000)
            self.fails(TooMany, call, ROW, 12, most=4000)
            for hands in HANDS:
                self.fails(BadNumber, call, ROW, hands)
                self.fails(BadNumber, call, THREE, hands)
            self.fails(BadClock, call, (1, (1,), (), ((0,),), [()]), -1, part="book")
