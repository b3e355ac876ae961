"""Point 6 and the first sentence of point 7: the earliest plan, chains, and how late it can be."""

import itertools

from livingclock.clocks import exchanges
from livingclock.earliest import earliest, shows_why, why
from livingclock.errors import BadClock, BadExchange, NoPlan
from livingclock.plans import is_right
from livingclock.rings import ring
from tests.samples import (
    CHASE, JUNK, LONE, PAIR, ROW, SKIPS, STILL, STUCK, THREE, Case, changed, earliest_ways, good_states, nested,
    plain_first_wrong, plain_steps, some_clock,
)
from tests.test_pushes import WRONG_EXCHANGES

# Wheel 0 waits for wheel 1, wheel 1 for wheel 0's next edition but one.
TURNS = (6, (3, 2), ((1, 0, 1), (4, 0, 1)), ((0, 2), (3, 5)), ((0, 1, 1, 1), (0, 3, 1, 2), (1, 2, 0, 2)))
CHAIN = (((2, 1), 2), ((1, 1), 4), ((0, 1), 6))


def plans_below(clock, below):
    """Return the list of all plans whose ticks are below a number."""
    rows = []
    for wheel, last in enumerate(clock[1]):
        free = [tick for tick in range(below) if tick % clock[0] in clock[3][wheel]]
        rows.append(list(itertools.combinations(free, last)))
    return list(itertools.product(*rows))


def shortest_ways(clock, goal):
    """Return how many pairs the shortest chain to a goal has, by going through all pairs layer by layer."""
    layer = {
        (u, min(tick for tick in range(clock[0]) if tick in clock[3][u[0]])) for u in exchanges(clock)
    }
    many = 1
    while goal not in layer:
        layer = {later for pair in layer for later in plain_steps(clock, pair)}
        many += 1
    return many


class ExamplesTest(Case):

    def test_examples(self):
        self.assertEqual(earliest(THREE), ((6,), (4,), (2,)))
        self.assertEqual(why(THREE, (0, 1)), CHAIN)
        self.assertIs(shows_why(THREE, (1, 1), (((2, 1), 2), ((1, 1), 4))), True)
        self.fails(BadExchange, why, THREE, (3, 1))


class EarliestTest(Case):

    def test_without_exchanges(self):
        self.assertEqual(earliest(LONE), ((),))
        self.assertEqual(earliest(STILL), ((), (), ()))

    def test_at_one_tick(self):
        self.assertEqual(earliest(PAIR), ((1,), (1,)))
        self.assertEqual(earliest((1, (4,) * 6, ((0, 0, 1),), ((0,),) * 6, ())), ((0, 1, 2, 3),) * 6)

    def test_one_wheel(self):
        self.assertEqual(earliest((5, (4,), (), ((1, 4),), ())), ((1, 4, 6, 9),))
        self.assertEqual(earliest((12, (4,), (), ((11,),), ())), ((11, 23, 35, 47),))

    def test_without_right_plan(self):
        for clock in (STUCK, CHASE):
            self.assertIsNone(earliest(clock))

    def test_the_greatest_clocks(self):
        ticks = tuple((wheel + 12 * (11 - wheel), wheel + 12 * (12 - wheel)) for wheel in range(12))
        self.assertEqual(earliest(ROW), ticks)
        self.assertTrue(is_right(ROW, ticks))

    def test_turns(self):
        plan = earliest(TURNS)
        good = good_states(TURNS)
        self.assertEqual(plan, earliest_ways(TURNS, 0, (0, 0), good))
        self.assertIsNone(plain_first_wrong(TURNS, plan))

    def test_against_all_ways(self):
        none = 0
        for seed in range(250):
            clock = some_clock(seed)
            plan = earliest(clock)
            self.assertEqual(plan, earliest_ways(clock, 0, (0,) * len(clock[1]), good_states(clock)), clock)
            none += plan is None
            if plan is not None:
                self.assertIsNone(plain_first_wrong(clock, plan))
                self.assertIsNone(ring(clock))
        self.assertGreater(none, 15)
        self.assertLess(none, 240)

    def test_against_all_plans(self):
        for seed in range(60):
            clock = some_clock(seed, most_period=3, most_wheels=3, most_edition=1)
            below = max(1, 2 * clock[0] * len(exchanges(clock)))
            right = [plan for plan in plans_below(clock, below) if plain_first_wrong(clock, plan) is None]
            plan = earliest(clock)
            if not right:
                self.assertIsNone(plan)
                continue
            self.assertIn(plan, right)
            for wheel in range(len(plan)):
                for place in range(len(plan[wheel])):
                    self.assertEqual(plan[wheel][place], min(other[wheel][place] for other in right))

    def test_the_bound(self):
        for seed in range(400):
            clock = some_clock(seed, most_period=12, most_wheels=5, most_edition=4)
            plan = earliest(clock)
            if plan is not None:
                self.assertTrue(is_right(clock, plan))
                for ticks in plan:
                    for tick in ticks:
                        self.assertLess(tick, 2 * clock[0] * len(exchanges(clock)))

    def test_wrong_clocks(self):
        for value in JUNK:
            if value != ({}, {}, {}, {}, {}):
                self.fails(BadClock, earliest, value, part="clock")
        self.fails(BadClock, earliest, changed(THREE, 3, ((0,), (1,), ())), part="gaps")


class WhyTest(Case):

    def test_single_pairs(self):
        self.assertEqual(why(THREE, (2, 1)), (((2, 1), 2),))
        self.assertEqual(why(SKIPS, (1, 1)), (((1, 1), 0),))

    def test_form_and_length(self):
        for seed in range(150):
            clock = some_clock(seed, most_period=5)
            plan = earliest(clock)
            if plan is None:
                continue
            for exchange in exchanges(clock):
                chain = why(clock, exchange)
                goal = (exchange, plan[exchange[0]][exchange[1] - 1])
                self.assertEqual(chain[-1], goal)
                self.assertEqual(chain[0][1], min(clock[3][chain[0][0][0]]))
                for former, later in zip(chain, chain[1:]):
                    self.assertIn(later, plain_steps(clock, former))
                for u, number in chain:
                    self.assertLessEqual(number, plan[u[0]][u[1] - 1])
                self.assertEqual(len(chain), shortest_ways(clock, goal))
                self.assertIs(shows_why(clock, exchange, chain), True)

    def test_greatest_clock(self):
        chain = why(ROW, (0, 2))
        self.assertEqual(len(chain), 13)
        self.assertEqual(chain[-1], ((0, 2), 144))
        self.assertIs(shows_why(ROW, (0, 2), chain), True)

    def test_wrong_exchanges(self):
        for value in WRONG_EXCHANGES:
            self.fails(BadExchange, why, THREE, value)
            self.fails(BadExchange, shows_why, THREE, value, ())
        self.fails(BadExchange, why, STILL, (0, 1))

    def test_no_plan(self):
        self.fails(NoPlan, why, STUCK, (0, 1))
        self.fails(NoPlan, shows_why, STUCK, (0, 1), ())
        self.fails(NoPlan, shows_why, CHASE, (2, 1), None)

    def test_which_error_comes_first(self):
        self.fails(BadClock, why, None, None, part="clock")
        self.fails(BadClock, shows_why, None, None, None, part="clock")
        self.fails(BadExchange, why, STUCK, (5, 5))
        self.fails(BadExchange, shows_why, STUCK, None, None)


class ShowsWhyTest(Case):

    def test_any_value(self):
        for value in JUNK + (nested(100000), THREE, (nested(100000),) * 3, ((nested(100000), 6),) * 3):
            self.assertIs(shows_why(THREE, (0, 1), value), False)
            self.assertIs(shows_why(THREE, (2, 1), value), False)

    def test_other_values(self):
        for value in (
            list(CHAIN), CHAIN[1:], CHAIN[:2], CHAIN + (((0, 1), 6),), CHAIN[::-1], (CHAIN[0], CHAIN[1], [(0, 1), 6]),
            changed(CHAIN, 0, ((2, 1), 5)), changed(CHAIN, 0, ((2, 1), -1)), changed(CHAIN, 1, ((1, 1), 7)),
            changed(CHAIN, 2, ((0, 1), 9)), changed(CHAIN, 2, ([0, 1], 6)), changed(CHAIN, 2, ((0, True), 6)),
            changed(CHAIN, 1, ((1, 1), 4, 0)), changed(CHAIN, 0, (None, 2)), changed(CHAIN, 0, ((2, 1), None)),
            changed(CHAIN, 0, ((2, 1), "2")), changed(CHAIN, 1, ((2, 1), 4)), changed(CHAIN, 0, ((2, 2), 2)),
            (((2, 1), 5), ((1, 1), 7), ((0, 1), 9)), (((2, 1), -1), ((1, 1), 1), ((0, 1), 3)),
            (((1, 1), 1), ((0, 1), 3)), (((0, 1), 0),), (((0, 1), 6),), CHAIN[:2] + (CHAIN[2] + (0,),),
        ):
            self.assertIs(shows_why(THREE, (0, 1), value), False, value)
        self.assertIs(shows_why(THREE, (0, 1), CHAIN), True)
        self.assertIs(shows_why(THREE, (1, 1), CHAIN), False)

    def test_chains_to_another_exchange(self):
        self.assertIs(shows_why(THREE, (2, 1), (((1, 1), 1),)), False)
        clock = (2, (1,) * 4, ((0, 0, 1), (0, 2, 3)), ((0,), (1,)) * 2, ((0, 1, 1, 1), (2, 1, 3, 1)))
        self.assertIs(shows_why(clock, (0, 1), (((3, 1), 1), ((2, 1), 2))), False)
        self.assertIs(shows_why(clock, (2, 1), (((3, 1), 1), ((2, 1), 2))), True)

    def test_booleans_are_no_numbers(self):
        clock = (2, (1, 1), ((0, 0, 1),), ((1,), (0, 1)), ((0, 1, 1, 1),))
        self.assertEqual(why(clock, (0, 1)), (((0, 1), 1),))
        self.assertIs(shows_why(clock, (0, 1), (((0, 1), True),)), False)
        self.assertEqual(why(clock, (1, 1)), (((1, 1), 0),))
        self.assertIs(shows_why(clock, (1, 1), (((1, 1), False),)), False)
        self.assertIs(shows_why(clock, (1, 1), (((True, 1), 0),)), False)

    def test_longer_chains_do_not_show_it(self):
        # Wheel 0's second edition at 2 is pushed there by its first one, and by wheel 1 through wheel 2.
        clock = (
            2, (2, 1, 1), ((0, 1, 2), (1, 0, 1)), ((0,), (0,), (1,)), ((0, 2, 1, 1), (1, 1, 2, 1)),
        )
        self.assertEqual(earliest(clock), ((0, 2), (2,), (1,)))
        self.assertEqual(why(clock, (0, 2)), (((0, 1), 0), ((0, 2), 2)))
        self.assertIs(shows_why(clock, (0, 2), (((2, 1), 1), ((1, 1), 2), ((0, 2), 2))), False)

    def test_any_such(self):
        # Two wheels push wheel 0 to the same tick: either chain may be told.
        clock = (2, (1, 1, 1), ((0, 0, 1), (0, 0, 2)), ((0,), (1,), (1,)), ((0, 1, 1, 1), (0, 1, 2, 1)))
        for partner in (1, 2):
            self.assertIs(shows_why(clock, (0, 1), (((partner, 1), 1), ((0, 1), 2))), True)
        self.assertIn(why(clock, (0, 1)), [(((partner, 1), 1), ((0, 1), 2)) for partner in (1, 2)])
