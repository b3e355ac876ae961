"""Point 9: rests from the midst of the work, what is due, what is safe, and whether it may wait."""

from livingclock.earliest import earliest
from livingclock.errors import BadClock, BadStanding, BadTick
from livingclock.middle import due, may_wait, rest, safe
from tests.samples import (
    CHASE, JUNK, LONE, PAIR, ROW, SKIPS, STILL, STUCK, THREE, Case, all_standings, deeds, earliest_ways, good_states,
    plain_needed, plain_standing, plain_touch, plain_unfit, some_clock, still_undone,
)

FAR = 10 ** 30
WRONG_STANDINGS = JUNK + (
    (0, 0), (0, 0, 0, 0), [0, 0, 0], (0, 0, 2), (0, 0, -1), (0, 0, True), (False, 0, 0), (0, 0, None), (0, 0, "0"),
    (0, 0, (0,)), "000", {0: 0, 1: 0, 2: 0}, (0, [0], 0), (None, None, None),
)


def plain_due(clock, tick, standing):
    """Return the pairs of the exchanges that are needed and the ticks of the touches that need them first."""
    pairs = []
    for j, b in still_undone(clock, standing):
        ticks = [
            c for i in range(len(standing)) if i != j and plain_needed(clock, i, standing[i], j) >= b
            for c in range(tick, tick + clock[0]) if plain_touch(clock, i, j, c)
        ]
        if ticks:
            pairs.append(((j, b), min(ticks)))
    return tuple(pairs)


class ExamplesTest(Case):

    def test_examples(self):
        self.assertEqual(rest(THREE, 7, (0, 0, 1)), ((9,), (7,), ()))
        self.assertEqual(due(THREE, 3, (0, 1, 0)), (((2, 1), 4),))
        self.assertIsNone(rest(THREE, 3, (0, 1, 0)))
        self.assertEqual(safe(THREE, 2, (0, 0, 0)), (2,))
        self.assertIs(may_wait(THREE, 3, (1, 0, 1)), False)
        self.fails(BadStanding, rest, THREE, 0, (0, 0, 2))


class RestTest(Case):

    def test_from_the_beginning(self):
        for clock in (THREE, PAIR, LONE, STILL, ROW, SKIPS, STUCK, CHASE):
            self.assertEqual(rest(clock, 0, (0,) * len(clock[1])), earliest(clock))

    def test_nothing_left(self):
        self.assertEqual(rest(THREE, 5, (1, 1, 1)), ((), (), ()))
        self.assertEqual(rest(STUCK, FAR, (1, 1)), ((), ()))
        self.assertEqual(rest(LONE, FAR, (0,)), ((),))
        self.assertEqual(rest(ROW, FAR, (2,) * 12), ((),) * 12)

    def test_what_stands_may_be_due_at_once(self):
        self.assertEqual(rest(THREE, 4, (1, 0, 1)), ((), (4,), ()))
        self.assertIsNone(rest(THREE, 2, (1, 0, 1)))
        self.assertEqual(rest(THREE, 1, (1, 0, 1)), ((), (1,), ()))
        self.assertEqual(rest(STUCK, 1, (1, 0)), ((), (1,)))
        self.assertIsNone(rest(STUCK, 0, (1, 0)))

    def test_far_ticks(self):
        # The tick 10 ** 30 has the phase 1.
        self.assertEqual(rest(THREE, FAR, (0, 0, 0)), ((FAR + 5,), (FAR + 3,), (FAR + 1,)))
        self.assertEqual(rest(THREE, FAR, (1, 0, 1)), ((), (FAR,), ()))
        self.assertEqual(rest((1, (4,), (), ((0,),), ()), FAR, (1,)), ((FAR, FAR + 1, FAR + 2),))

    def test_far_ticks_of_the_greatest_clock(self):
        turned = FAR - FAR % 12
        plan = rest(ROW, turned, (0,) * 12)
        self.assertEqual(plan, tuple(tuple(turned + tick for tick in ticks) for ticks in earliest(ROW)))

    def test_second_editions_come_later(self):
        self.assertEqual(rest((5, (4,), (), ((1, 4),), ()), 4, (1,)), ((4, 6, 9),))

    def test_along_the_earliest_plan(self):
        for clock in (THREE, PAIR, SKIPS, ROW):
            plan = earliest(clock)
            for tick in range(max(ticks[-1] for ticks in plan) + 2):
                standing = (0,) * len(plan) if tick == 0 else plain_standing(plan, tick - 1)
                left = tuple(tuple(moment for moment in ticks if moment >= tick) for ticks in plan)
                self.assertEqual(rest(clock, tick, standing), left)


class WaysTest(Case):

    def test_against_all_ways(self):
        counts = {"rests": 0, "none": 0, "waits": 0, "dues": 0, "safe": 0}
        for seed in range(120):
            clock = some_clock(seed)
            good = good_states(clock)
            for standing in all_standings(clock):
                for tick in range(clock[0], 2 * clock[0]):
                    self.compare(clock, tick, standing, good, counts)
        for name, many in counts.items():
            self.assertGreater(many, 100, name)

    def compare(self, clock, tick, standing, good, counts):
        """Compare what middle tells of a moment with all ways of going on."""
        told = earliest_ways(clock, tick, standing, good)
        self.assertEqual(rest(clock, tick, standing), told, (clock, tick, standing))
        later = (tick + 1) % clock[0]
        able = [wheels for wheels, after in deeds(clock, tick, standing) if (later, after) in good]
        wheels = tuple(wheel for wheel in range(len(standing)) if any(wheel in deed for deed in able))
        self.assertEqual(safe(clock, tick, standing), wheels, (clock, tick, standing))
        self.assertIs(may_wait(clock, tick, standing), () in able, (clock, tick, standing))
        self.assertEqual(due(clock, tick, standing), plain_due(clock, tick, standing), (clock, tick, standing))
        if told is None:
            counts["none"] += 1
        else:
            counts["rests"] += 1
            self.is_right_rest(clock, tick, standing, told)
        counts["waits"] += () in able
        counts["dues"] += bool(due(clock, tick, standing))
        counts["safe"] += bool(wheels)

    def is_right_rest(self, clock, tick, standing, ticks):
        """Ask that all that touch fit from the tick on."""
        last = max([moment for row in ticks for moment in row], default=tick)
        for now in range(tick, last + clock[0] + 1):
            editions = tuple(edition + more for edition, more in zip(standing, plain_standing(ticks, now)))
            self.assertEqual(plain_unfit(clock, editions, now), [])


class DueTest(Case):

    def test_nothing(self):
        self.assertEqual(due(THREE, 0, (0, 0, 0)), ())
        self.assertEqual(due(THREE, 0, (1, 1, 1)), ())
        self.assertEqual(due(LONE, 0, (0,)), ())

    def test_all_editions_up_to_the_needed_one(self):
        self.assertEqual(due(SKIPS, 0, (4, 0)), (((1, 1), 0), ((1, 2), 0), ((1, 3), 0)))
        self.assertEqual(due(SKIPS, 1, (3, 0)), (((1, 1), 2), ((1, 2), 2)))
        self.assertEqual(due(SKIPS, 3, (0, 2)), (((0, 1), 4),))

    def test_the_least_of_the_next_touches(self):
        clock = (6, (1, 1, 1), ((1, 1, 2), (4, 0, 2)), ((0,),) * 3, ((0, 1, 2, 1), (1, 1, 2, 1)))
        self.assertEqual(due(clock, 0, (1, 1, 0)), (((2, 1), 1),))
        self.assertEqual(due(clock, 2, (1, 1, 0)), (((2, 1), 4),))
        self.assertEqual(due(clock, 5, (1, 1, 0)), (((2, 1), 7),))
        self.assertEqual(due(clock, 5, (1, 0, 0)), (((2, 1), 10),))
        self.assertEqual(due(clock, 1, (0, 1, 0)), (((2, 1), 1),))

    def test_wheels_that_never_touch(self):
        clock = (2, (1, 1), (), ((0,), (1,)), ((0, 1, 1, 1),))
        self.assertEqual(due(clock, 0, (1, 0)), ())
        self.assertEqual(rest(clock, 0, (1, 0)), ((), (1,)))

    def test_far_ticks(self):
        self.assertEqual(due(THREE, FAR, (1, 0, 0)), (((1, 1), FAR + 2),))


class SafeTest(Case):

    def test_nothing_is_safe(self):
        self.assertEqual(safe(THREE, 0, (0, 0, 0)), ())
        self.assertEqual(safe(THREE, 3, (0, 0, 1)), ())
        self.assertEqual(safe(THREE, 5, (1, 1, 1)), ())
        self.assertEqual(safe(STUCK, 0, (0, 0)), ())
        self.assertEqual(safe(LONE, 0, (0,)), ())

    def test_together_with_others(self):
        clock = (1, (1, 1), ((0, 0, 1),), ((0,), (0,)), ((0, 1, 1, 1), (1, 1, 0, 1)))
        self.assertEqual(safe(clock, 0, (0, 0)), (0, 1))
        self.assertEqual(safe(clock, 0, (1, 0)), (1,))
        self.assertIs(may_wait(clock, 0, (0, 0)), True)
        self.assertIs(may_wait(clock, 0, (1, 0)), False)

    def test_one_edition_at_a_tick(self):
        clock = (1, (2, 1), ((0, 0, 1),), ((0,), (0,)), ((1, 1, 0, 2),))
        self.assertEqual(safe(clock, 0, (0, 0)), (0,))
        self.assertEqual(safe(clock, 0, (1, 0)), (0, 1))

    def test_the_second_edition_at_the_next_tick(self):
        clock = (2, (2, 1), ((1, 0, 1),), ((0, 1), (0,)), ((1, 1, 0, 2),))
        self.assertEqual(due(clock, 0, (0, 1)), (((0, 1), 1), ((0, 2), 1)))
        self.assertEqual(safe(clock, 0, (0, 1)), (0,))
        self.assertEqual(safe(clock, 1, (0, 1)), ())
        self.assertIs(may_wait(clock, 0, (0, 1)), False)

    def test_far_ticks(self):
        self.assertEqual(safe(THREE, FAR - 2, (0, 0, 0)), (2,))
        self.assertEqual(safe((1, (4,), (), ((0,),), ()), FAR, (3,)), (0,))
        self.assertIs(may_wait(THREE, FAR - 1, (1, 0, 1)), False)
        self.assertIs(may_wait(THREE, FAR, (1, 0, 1)), False)
        self.assertIs(may_wait(THREE, FAR, (0, 0, 1)), True)

    def test_at_the_last_editions(self):
        for clock in (THREE, STUCK, LONE, ROW, CHASE):
            self.assertEqual(safe(clock, 3, clock[1]), ())
            self.assertIs(may_wait(clock, 3, clock[1]), True)

    def test_without_a_way(self):
        self.assertIs(may_wait(STUCK, 0, (0, 0)), False)
        self.assertIs(may_wait(STUCK, 1, (0, 0)), False)
        self.assertIs(may_wait(STUCK, 1, (1, 0)), False)
        self.assertEqual(safe(STUCK, 1, (1, 0)), (1,))


class WrongInputsTest(Case):

    FUNCTIONS = (rest, due, safe, may_wait)

    def test_wrong_standings(self):
        for call in self.FUNCTIONS:
            for value in WRONG_STANDINGS:
                self.fails(BadStanding, call, THREE, 0, value)
            self.fails(BadStanding, call, SKIPS, 0, (0, 4))
            self.fails(BadStanding, call, LONE, 0, (1,))

    def test_wrong_ticks(self):
        for call in self.FUNCTIONS:
            for tick in (-1, FAR + 1, None, True, False, "0", (), [], {}, (0,)):
                self.fails(BadTick, call, THREE, tick, (0, 0, 0))
                self.fails(BadTick, call, THREE, tick, None)

    def test_wrong_clocks(self):
        for call in self.FUNCTIONS:
            for value in JUNK:
                if value != ({}, {}, {}, {}, {}):
                    self.fails(BadClock, call, value, None, None, part="clock")
            self.fails(BadClock, call, (3, (1,), (), ((),), ()), -1, (9,), part="gaps")
