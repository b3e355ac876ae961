"""Point 4 and push_row of point 5: what leans on what, and the pushes."""

import itertools

from livingclock.errors import BadClock, BadExchange, BadTick, NotLeaning
from livingclock.plans import is_right
from livingclock.pushes import leaning, push, push_row
from livingclock.stairs import row_at
from tests.samples import (
    PAIR, ROW, SKIPS, STILL, THREE, Case, plain_exchanges, plain_leans, plain_push, some_clock,
)
from tests.test_plans import some_plans

WRONG_EXCHANGES = (
    None, True, 0, "01", (), (0,), (0, 1, 1), [0, 1], (0, 0), (0, 2), (3, 1), (-1, 1), (False, 1), (0, True),
    (0, None), ("0", 1), ((0, 1), 1), {}, {0: 1}, (0, 10 ** 40),
)


class ExamplesTest(Case):

    def test_examples(self):
        self.assertEqual(leaning(THREE), (((0, 1), (1, 1)), ((1, 1), (2, 1))))
        self.assertEqual(push(THREE, (0, 1), (1, 1), 4), 6)
        self.assertEqual(push(THREE, (0, 1), (1, 1), -10), -9)
        self.assertEqual(push_row(THREE, (0, 1), (1, 1)), (0, 3, 3))
        self.fails(NotLeaning, push, THREE, (1, 1), (0, 1), 4)


class LeaningTest(Case):

    def test_the_greatest_need_so_far(self):
        self.assertEqual(leaning(SKIPS), (
            ((0, 1), (1, 2)), ((0, 2), (0, 1)), ((0, 2), (1, 2)), ((0, 3), (0, 2)), ((0, 3), (1, 2)),
            ((0, 4), (0, 3)), ((0, 4), (1, 3)), ((1, 2), (0, 1)), ((1, 2), (1, 1)), ((1, 3), (0, 1)), ((1, 3), (1, 2)),
        ))

    def test_without_touch(self):
        clock = (2, (2, 1), (), ((0,), (1,)), ((0, 1, 1, 1),))
        self.assertEqual(leaning(clock), (((0, 2), (0, 1)),))
        self.fails(NotLeaning, push, clock, (0, 1), (1, 1), 0)

    def test_nothing(self):
        self.assertEqual(leaning(STILL), ())

    def test_many_clocks(self):
        for seed in range(120):
            clock = some_clock(seed, most_edition=3)
            told = [pair for pair in itertools.product(plain_exchanges(clock), repeat=2) if plain_leans(clock, *pair)]
            self.assertEqual(leaning(clock), tuple(told))


class PushTest(Case):

    def test_between_wheels(self):
        clock = (6, (1, 1), ((1, 0, 1), (4, 0, 1)), ((0, 3), (2,)), ((0, 1, 1, 1),))
        pushes = [push(clock, (0, 1), (1, 1), tick) for tick in range(-1, 9)]
        self.assertEqual(pushes, [0, 0, 0, 3, 3, 3, 6, 6, 6, 9])

    def test_a_push_may_be_below_the_tick(self):
        clock = (12, (1, 1), ((0, 0, 1),), ((1,), (11,)), ((0, 1, 1, 1),))
        self.assertEqual(push(clock, (0, 1), (1, 1), 11), 1)
        self.assertEqual(push(clock, (0, 1), (1, 1), 12), 1)
        self.assertEqual(push(clock, (0, 1), (1, 1), 13), 13)

    def test_a_touch_at_the_tick_itself_is_no_bar(self):
        self.assertEqual(push(PAIR, (0, 1), (1, 1), 0), -1)
        self.assertEqual(push(PAIR, (0, 1), (1, 1), 1), 1)

    def test_of_one_wheel(self):
        clock = (5, (3,), (), ((1, 4),), ())
        self.assertEqual([push(clock, (0, 2), (0, 1), tick) for tick in range(-1, 6)], [1, 1, 4, 4, 4, 6, 6])
        self.assertEqual(push((1, (2,), (), ((0,),), ()), (0, 2), (0, 1), 7), 8)
        self.assertEqual(push((12, (2,), (), ((11,),), ()), (0, 2), (0, 1), 11), 23)

    def test_far_ticks(self):
        self.assertEqual(push(THREE, (0, 1), (1, 1), 10 ** 30), 10 ** 30 + 2)
        self.assertEqual(push(THREE, (0, 1), (1, 1), -10 ** 30), -10 ** 30 + 1)
        self.assertEqual(push(ROW, (0, 2), (0, 1), 10 ** 30), 10 ** 30 - 10 ** 30 % 12 + 12)
        self.assertEqual(push((1, (2,), (), ((0,),), ()), (0, 2), (0, 1), -10 ** 30), -10 ** 30 + 1)

    def test_many_clocks(self):
        for seed in range(80):
            clock = some_clock(seed, most_period=6, most_edition=3)
            for u, w in leaning(clock):
                for tick in range(-2 * clock[0] - 1, 2 * clock[0] + 2):
                    self.assertEqual(push(clock, u, w, tick), plain_push(clock, u, w, tick))

    def test_a_plan_is_right_exactly_if_no_push_is_later(self):
        for seed in range(80):
            clock = some_clock(seed)
            for plan in some_plans(clock, 3 * clock[0], 25):
                kept = all(
                    plan[u[0]][u[1] - 1] >= push(clock, u, w, plan[w[0]][w[1] - 1]) for u, w in leaning(clock)
                )
                self.assertIs(is_right(clock, plan), kept)

    def test_wrong_exchanges(self):
        for value in WRONG_EXCHANGES:
            self.fails(BadExchange, push, THREE, value, (1, 1), 0)
            self.fails(BadExchange, push, THREE, (0, 1), value, 0)
            self.fails(BadExchange, push_row, THREE, value, (1, 1))
            self.fails(BadExchange, push_row, THREE, (0, 1), value)

    def test_wrong_ticks(self):
        for tick in (10 ** 30 + 1, -10 ** 30 - 1, True, None, "0", (), [], {}, (0,)):
            self.fails(BadTick, push, THREE, (0, 1), (1, 1), tick)

    def test_not_leaning(self):
        for u, w in (((1, 1), (0, 1)), ((0, 1), (2, 1)), ((0, 1), (0, 1))):
            self.fails(NotLeaning, push, THREE, u, w, 0)
            self.fails(NotLeaning, push_row, THREE, u, w)
        for u, w in (((0, 1), (1, 1)), ((0, 3), (0, 1)), ((0, 1), (0, 2)), ((0, 1), (1, 3)), ((1, 1), (0, 1))):
            self.fails(NotLeaning, push, SKIPS, u, w, 0)

    def test_which_error_comes_first(self):
        self.fails(BadClock, push, None, None, None, None, part="clock")
        self.fails(BadExchange, push, THREE, None, None, None)
        self.fails(BadExchange, push, THREE, (0, 1), None, None)
        self.fails(BadTick, push, THREE, (1, 1), (0, 1), None)
        self.fails(BadClock, push_row, (3, (), (), (), ()), None, None, part="editions")
        self.fails(BadExchange, push_row, THREE, (1, 1), (3, 1))


class PushRowTest(Case):

    def test_rows(self):
        self.assertEqual(push_row((1, (2,), (), ((0,),), ()), (0, 2), (0, 1)), (1,))
        self.assertEqual(push_row((5, (2,), (), ((1, 4),), ()), (0, 2), (0, 1)), (1, 4, 4, 4, 6))
        self.assertEqual(push_row(ROW, (0, 1), (1, 1)), (0,) + (12,) * 11)

    def test_many_clocks(self):
        for seed in range(80):
            clock = some_clock(seed, most_period=6)
            for u, w in leaning(clock):
                row = push_row(clock, u, w)
                self.assertEqual(len(row), clock[0])
                for tick in (-10 ** 30, -7, -1, 0, 1, 5, 23, 10 ** 30):
                    self.assertEqual(row_at(row, tick), push(clock, u, w, tick))
