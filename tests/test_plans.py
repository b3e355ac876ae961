"""Point 3 and mixed of point 7: plans, whether all that touch fit, two plans mixed."""

import itertools

from livingclock.errors import BadChoice, BadClock, BadPlan, BadTick, BadWheel
from livingclock.plans import edition_at, first_wrong, is_right, mixed, wrong_at
from tests.samples import (
    JUNK, LONE, PAIR, ROW, SKIPS, STILL, STUCK, THREE, Case, plain_first_wrong, plain_standing, plain_unfit,
    some_clock,
)

PLAN = ((0,), (4,), (2,))
QUICK = (1, (1, 1), ((0, 0, 1),), ((0,), (0,)), ((0, 1, 1, 1),))
WIDE = (2, (2, 1), ((0, 0, 1),), ((0, 1), (1,)), ((0, 2, 1, 1),))


def some_plans(clock, below, most=60):
    """Return some of the plans of a clock whose ticks are below a number."""
    rows = []
    for wheel, last in enumerate(clock[1]):
        free = [tick for tick in range(below) if tick % clock[0] in clock[3][wheel]]
        rows.append(list(itertools.combinations(free, last)))
    plans = list(itertools.product(*rows))
    return plans[::max(1, len(plans) // most)]


class ExamplesTest(Case):

    def test_examples(self):
        self.assertEqual(edition_at(THREE, PLAN, 1, 3), 0)
        self.assertEqual(wrong_at(THREE, PLAN, 0), ((0, 1),))
        self.assertEqual(first_wrong(THREE, PLAN), 0)
        self.assertIs(is_right(THREE, ((6,), (4,), (2,))), True)
        self.assertEqual(mixed(THREE, ((6,), (4,), (5,)), ((9,), (1,), (2,)), True), ((9,), (4,), (5,)))
        self.fails(BadPlan, first_wrong, THREE, ((1,), (1,), (2,)), wheel=0)


class PlanTest(Case):

    def test_no_tuple_of_so_many(self):
        for value in JUNK + (PLAN[:2], PLAN + ((),), list(PLAN)):
            if value != ((0,), [1], (2,)):
                self.fails(BadPlan, first_wrong, THREE, value, wheel=None)

    def test_the_first_wrong_wheel(self):
        wrong = (
            (), (0, 3), (1,), (-3,), (100001,), [0], None, 0, "0", (None,), ("0",), (False,), ((0,),), {}, (10 ** 40,),
        )
        for ticks in wrong:
            self.fails(BadPlan, first_wrong, THREE, (ticks, (4,), (2,)), wheel=0)
            self.fails(BadPlan, first_wrong, THREE, (ticks, None, None), wheel=0)
        for ticks in ((), (1, 4), (0,), (True,), None):
            self.fails(BadPlan, first_wrong, THREE, ((0,), ticks, None), wheel=1)
        self.fails(BadPlan, first_wrong, THREE, ((0,), (1,), (0,)), wheel=2)

    def test_ticks_ascend(self):
        for ticks in ((1, 0), (1, 1), (3, 2)):
            self.fails(BadPlan, is_right, WIDE, (ticks, (1,)), wheel=0)
        self.assertIs(is_right(WIDE, ((0, 1), (1,))), True)

    def test_wheels_without_exchange(self):
        self.assertIs(is_right(LONE, ((),)), True)
        self.assertIs(is_right(STILL, ((), (), ())), True)
        self.fails(BadPlan, is_right, STILL, ((), (3,), ()), wheel=1)

    def test_limits(self):
        self.assertEqual(edition_at(QUICK, ((0,), (100000,)), 1, 99999), 0)
        self.assertEqual(edition_at(QUICK, ((0,), (100000,)), 1, 100000), 1)
        self.fails(BadPlan, first_wrong, QUICK, ((0,), (100001,)), wheel=1)
        self.fails(BadPlan, first_wrong, QUICK, ((-1,), (0,)), wheel=0)


class EditionAtTest(Case):

    def test_each_tick(self):
        plan = ((1, 3, 5, 9), (0, 1, 4))
        self.assertEqual([edition_at(SKIPS, plan, 0, tick) for tick in range(11)], [0, 1, 1, 2, 2, 3, 3, 3, 3, 4, 4])
        self.assertEqual([edition_at(SKIPS, plan, 1, tick) for tick in range(6)], [1, 2, 2, 2, 3, 3])
        self.assertEqual(edition_at(SKIPS, plan, 0, 10 ** 30), 4)

    def test_wrong_arguments(self):
        for wheel in (-1, 3, True, None, "0", (), [], {}):
            self.fails(BadWheel, edition_at, THREE, PLAN, wheel, None)
        for tick in (-1, 10 ** 30 + 1, False, None, "0", (), [], {}):
            self.fails(BadTick, edition_at, THREE, PLAN, 0, tick)
        self.fails(BadClock, edition_at, None, None, None, None, part="clock")
        self.fails(BadPlan, edition_at, THREE, None, None, None, wheel=None)


class WrongTest(Case):

    def test_one_side_is_enough(self):
        self.assertEqual(wrong_at(PAIR, ((0,), (3,)), 2), ((0, 1),))
        self.assertEqual(wrong_at(PAIR, ((4,), (1,)), 2), ((0, 1),))
        self.assertEqual(wrong_at(PAIR, ((2,), (1,)), 2), ())

    def test_ascending_pairs(self):
        clock = (1, (1, 1, 1), ((0, 0, 1), (0, 0, 2), (0, 1, 2)), ((0,),) * 3, ((0, 1, 1, 1), (0, 1, 2, 1)))
        self.assertEqual(wrong_at(clock, ((0,), (1,), (1,)), 0), ((0, 1), (0, 2)))
        self.assertEqual(wrong_at(clock, ((0,), (1,), (1,)), 1), ())

    def test_an_exchange_counts_at_its_own_tick(self):
        self.assertEqual(first_wrong(QUICK, ((5,), (5,))), None)
        self.assertEqual(first_wrong(QUICK, ((5,), (6,))), 5)

    def test_late(self):
        self.assertEqual(first_wrong(QUICK, ((99999,), (100000,))), 99999)
        self.assertEqual(first_wrong(QUICK, ((0,), (100000,))), 0)
        late = (12, (1, 1), ((7, 0, 1),), ((0,), (8,)), ((0, 1, 1, 1),))
        self.assertEqual(first_wrong(late, ((99996,), (99980,))), None)
        self.assertEqual(first_wrong(late, ((99984,), (99992,))), 99991)
        self.assertEqual(first_wrong(late, ((0,), (8,))), 7)
        # Nothing is exchanged between 0 and 99992, yet the touch that is wrong comes soon.
        self.assertEqual(first_wrong(late, ((0,), (99992,))), 7)
        long = (12, (2, 1), ((11, 0, 1),), ((0, 6), (8,)), ((0, 2, 1, 1),))
        self.assertEqual(first_wrong(long, ((0, 6), (20,))), 11)
        self.assertEqual(first_wrong(long, ((0, 60000), (60008,))), None)
        self.assertEqual(first_wrong(long, ((0, 60006), (80000,))), 60011)

    def test_fits_in_the_end(self):
        self.assertIs(is_right(STUCK, ((0,), (1,))), False)
        self.assertIs(is_right(ROW, tuple((k + 12 * (12 - k), k + 12 * (26 - k)) for k in range(12))), True)
        self.assertEqual(wrong_at(STUCK, ((0,), (1,)), 10 ** 30), ())

    def test_wrong_ticks(self):
        for tick in (-1, 10 ** 30 + 1, False, None, "0", (), [], {}):
            self.fails(BadTick, wrong_at, THREE, PLAN, tick)
        self.fails(BadPlan, wrong_at, THREE, None, None, wheel=None)

    def test_many_plans(self):
        for seed in range(80):
            clock = some_clock(seed)
            for plan in some_plans(clock, 3 * clock[0], 25):
                wrong = plain_first_wrong(clock, plan)
                self.assertEqual(first_wrong(clock, plan), wrong)
                self.assertIs(is_right(clock, plan), wrong is None)
                for tick in range(2 * clock[0]):
                    standing = plain_standing(plan, tick)
                    self.assertEqual(wrong_at(clock, plan, tick), tuple(plain_unfit(clock, standing, tick)))
                    for wheel in range(len(clock[1])):
                        self.assertEqual(edition_at(clock, plan, wheel, tick), standing[wheel])


class MixedTest(Case):

    def test_both_ways(self):
        one, other = ((6,), (4,), (5,)), ((9,), (1,), (2,))
        self.assertEqual(mixed(THREE, one, other, False), ((6,), (1,), (2,)))
        self.assertEqual(mixed(THREE, other, one, True), ((9,), (4,), (5,)))
        self.assertEqual(mixed(STILL, ((), (), ()), ((), (), ()), False), ((), (), ()))
        self.assertEqual(mixed(WIDE, ((0, 5), (3,)), ((1, 2), (1,)), True), ((1, 5), (3,)))
        self.assertEqual(mixed(WIDE, ((0, 5), (3,)), ((1, 2), (1,)), False), ((0, 2), (1,)))

    def test_right_plans_mixed_are_right(self):
        for seed in range(60):
            clock = some_clock(seed)
            right = [plan for plan in some_plans(clock, 3 * clock[0], 200) if is_right(clock, plan)][:8]
            for one, other in itertools.product(right, right):
                for later in (True, False):
                    self.assertIs(is_right(clock, mixed(clock, one, other, later)), True)

    def test_wrong_choices(self):
        for later in (0, 1, None, "True", (), [], {}, (True,)):
            self.fails(BadChoice, mixed, THREE, PLAN, PLAN, later)

    def test_which_error_comes_first(self):
        self.fails(BadPlan, mixed, THREE, ((0,), (1,), None), (None, None, None), None, wheel=2)
        self.fails(BadPlan, mixed, THREE, PLAN, ((0,), None, None), None, wheel=1)
        self.fails(BadClock, mixed, (1,), None, None, None, part="clock")
