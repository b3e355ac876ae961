"""Points 48 and 49: clocks put together, slowed, quickened, renamed, turned, and their parts."""

import itertools
import math
import random

from livingclock.clocks import exchanges
from livingclock.earliest import earliest
from livingclock.errors import BadClock, BadNumber, BadOrder, BadPlan, TooMany
from livingclock.joinings import part_of, parts, quickest, renamed, renamed_plan, slowed, together, turned
from livingclock.middle import rest
from livingclock.plans import is_right
from tests.samples import (
    CHASE, JUNK, LONE, PAIR, ROW, SKIPS, STILL, STUCK, THREE, Case, plain_needed, plain_touch, some_clock,
)

EXAMPLE = (2, (1, 0), ((0, 0, 1),), ((1,), ()), ())
SAMPLES = (THREE, STUCK, PAIR, LONE, CHASE, ROW, SKIPS, STILL, EXAMPLE)


def same_told(case, clock, other, ticks):
    """Ask that two clocks have the same wheels, touches and gaps at the first ticks."""
    case.assertEqual((clock[1], clock[4]), (other[1], other[4]))
    for tick in range(ticks):
        pairs = [(i, j) for i in range(len(clock[1])) for j in range(i + 1, len(clock[1]))]
        for i, j in pairs:
            case.assertEqual(plain_touch(clock, i, j, tick), plain_touch(other, i, j, tick))
        for phases, others in zip(clock[3], other[3]):
            case.assertEqual(tick % clock[0] in phases, tick % other[0] in others)


def some_order(chance, many):
    """Return an order of so many wheels."""
    order = list(range(many))
    chance.shuffle(order)
    return tuple(order)


class ExamplesTest(Case):

    def test_examples(self):
        self.assertEqual(slowed(EXAMPLE, 2), (4, (1, 0), ((0, 0, 1), (2, 0, 1)), ((1, 3), ()), ()))
        self.assertEqual(turned(EXAMPLE, 1), (2, (1, 0), ((1, 0, 1),), ((0,), ()), ()))
        self.assertEqual(parts(EXAMPLE), ((0,), (1,)))


class TogetherTest(Case):

    def test_by_hand(self):
        other = (3, (1,), (), ((0, 2),), ())
        self.assertEqual(
            together(EXAMPLE, other),
            (6, (1, 0, 1), ((0, 0, 1), (2, 0, 1), (4, 0, 1)), ((1, 3, 5), (), (0, 2, 3, 5)), ()),
        )
        self.assertEqual(
            together(PAIR, PAIR),
            (2, (1,) * 4, ((0, 0, 1), (0, 2, 3)), ((0, 1), (1,)) * 2,
             ((0, 1, 1, 1), (1, 1, 0, 1), (2, 1, 3, 1), (3, 1, 2, 1))),
        )
        # Touches of the second one may stand between those of the first one.
        self.assertEqual(together(STUCK, PAIR)[2], ((0, 0, 1), (0, 2, 3), (1, 0, 1)))

    def test_the_earliest_plan_is_both(self):
        joined = 0
        for seed in range(150):
            one, other = some_clock(seed), some_clock(1000 + seed, most_period=6)
            if math.lcm(one[0], other[0]) > 12:
                self.fails(TooMany, together, one, other, most=12)
                continue
            clock = together(one, other)
            self.assertEqual(clock[0], math.lcm(one[0], other[0]))
            self.assertEqual(len(exchanges(clock)), len(exchanges(one)) + len(exchanges(other)))
            first, second = earliest(one), earliest(other)
            if first is None or second is None:
                self.assertIsNone(earliest(clock))
            else:
                self.assertEqual(earliest(clock), first + second)
                joined += 1
        self.assertGreater(joined, 30)

    def test_most(self):
        eleven = (1, (2,) * 11, (), ((0,),) * 11, ())
        self.assertEqual(together(eleven, (1, (2,), (), ((0,),), ())), (1, (2,) * 12, (), ((0,),) * 12, ()))
        self.assertEqual(together((4, (0,), (), ((),), ()), (6, (0,), (), ((),), ()))[0], 12)
        self.fails(TooMany, together, (5, (0,), (), ((),), ()), (3, (0,), (), ((),), ()), most=12)
        self.fails(TooMany, together, (12, (0,), (), ((),), ()), (7, (0,), (), ((),), ()), most=12)
        self.fails(TooMany, together, ROW, LONE, most=12)
        self.fails(TooMany, together, (1, (4,) * 6, (), ((0,),) * 6, ()), (1, (1,), (), ((0,),), ()), most=24)
        self.assertEqual(sum(together((1, (4,) * 6, (), ((0,),) * 6, ()), LONE)[1]), 24)

    def test_the_first_limit_comes_first(self):
        full = (1, (4,) * 6, (), ((0,),) * 6, ())
        self.fails(TooMany, together, full, (1, (1,) * 7, (), ((0,),) * 7, ()), most=12)
        self.fails(TooMany, together, (5, (4,) * 6, (), ((0,),) * 6, ()), (7, (1,), (), ((0,),), ()), most=12)

    def test_wrong_clocks(self):
        self.fails(BadClock, together, (13, (0,), (), ((),), ()), None, part="period")
        self.fails(BadClock, together, ROW, (3, (1,), (), ((),), ()), part="gaps")


class SlowedTest(Case):

    def test_the_same_clock(self):
        for seed in range(80):
            clock = some_clock(seed)
            for many in range(1, 12 // clock[0] + 1):
                slow = slowed(clock, many)
                self.assertEqual(slow[0], clock[0] * many)
                same_told(self, clock, slow, 24)
                self.assertEqual(earliest(slow), earliest(clock))

    def test_edges(self):
        for clock in SAMPLES:
            self.assertEqual(slowed(clock, 1), clock)
        self.assertEqual(slowed(LONE, 12), (12, (0,), (), ((),), ()))
        self.fails(TooMany, slowed, ROW, 2, most=12)
        self.fails(TooMany, slowed, THREE, 5, most=12)
        self.fails(TooMany, slowed, EXAMPLE, 12, most=12)

    def test_wrong_numbers(self):
        for many in (0, -1, 13, 10 ** 30, None, True, "2", (2,), [], {}):
            self.fails(BadNumber, slowed, ROW, many)
        self.fails(BadClock, slowed, (1, (0,), (), (), ()), 0, part="gaps")


class QuickestTest(Case):

    def test_of_slowed_clocks(self):
        for seed in range(80):
            clock = some_clock(seed)
            quick = quickest(clock)
            same_told(self, clock, quick, 24)
            self.assertEqual(clock[0] % quick[0], 0)
            for many in range(1, 12 // clock[0] + 1):
                self.assertEqual(quickest(slowed(clock, many)), quick)

    def test_edges(self):
        self.assertEqual(quickest((12, (0,), (), ((),), ())), LONE)
        self.assertEqual(quickest((12, (1,), (), ((1, 4, 7, 10),), ())), (3, (1,), (), ((1,),), ()))
        self.assertEqual(quickest((12, (1,), (), ((1, 4, 7, 11),), ())), (12, (1,), (), ((1, 4, 7, 11),), ()))
        self.assertEqual(quickest((6, (1,), (), (tuple(range(6)),), ())), (1, (1,), (), ((0,),), ()))
        touches = ((0, 0, 1), (2, 0, 1), (4, 0, 1))
        self.assertEqual(quickest((6, (0, 0), touches, ((), ()), ())), (2, (0, 0), ((0, 0, 1),), ((), ()), ()))
        self.assertEqual(quickest((6, (0, 0), touches, ((), (0, 3)), ()))[0], 6)
        # Gaps of wheels without an exchange count, too.
        self.assertEqual(quickest((4, (0,), (), ((2,),), ())), (4, (0,), (), ((2,),), ()))

    def test_least(self):
        for clock in SAMPLES + tuple(some_clock(seed, 12) for seed in range(100)):
            period = quickest(clock)[0]
            for less in range(1, period):
                if clock[0] % less == 0:
                    shifted = [sorted((phase + less) % clock[0] for phase in phases) for phases in clock[3]]
                    told = [list(phases) for phases in clock[3]]
                    moved = sorted(((phase + less) % clock[0], i, j) for phase, i, j in clock[2])
                    self.assertFalse(shifted == told and tuple(moved) == clock[2])


class RenamedTest(Case):

    def test_by_hand(self):
        self.assertEqual(renamed(EXAMPLE, (1, 0)), (2, (0, 1), ((0, 0, 1),), ((), (1,)), ()))
        self.assertEqual(
            renamed(THREE, (1, 2, 0)),
            (3, (1, 1, 1), ((0, 1, 2), (1, 0, 2), (2, 0, 1)), ((2,), (0,), (1,)), ((1, 1, 2, 1), (2, 1, 0, 1))),
        )
        self.assertEqual(renamed_plan(THREE, ((6,), (4,), (2,)), (1, 2, 0)), ((2,), (6,), (4,)))

    def test_all_orders(self):
        for seed in range(30):
            clock = some_clock(seed, most_wheels=4)
            plan = earliest(clock)
            for order in itertools.permutations(range(len(clock[1]))):
                new = renamed(clock, order)
                back = tuple(order.index(wheel) for wheel in range(len(order)))
                self.assertEqual(renamed(new, back), clock)
                for i, j in itertools.permutations(range(len(order)), 2):
                    for phase in range(clock[0]):
                        self.assertEqual(plain_touch(clock, i, j, phase), plain_touch(new, order[i], order[j], phase))
                    for edition in range(clock[1][i] + 1):
                        needed = plain_needed(clock, i, edition, j)
                        self.assertEqual(plain_needed(new, order[i], edition, order[j]), needed)
                if plan is None:
                    self.assertIsNone(earliest(new))
                else:
                    self.assertEqual(earliest(new), renamed_plan(clock, plan, order))
                    self.assertTrue(is_right(new, renamed_plan(clock, plan, order)))

    def test_the_greatest_clock(self):
        order = some_order(random.Random(5), 12)
        self.assertEqual(earliest(renamed(ROW, order)), renamed_plan(ROW, earliest(ROW), order))

    def test_wrong_orders(self):
        wrong = JUNK + (
            (0, 1), (0, 1, 2, 3), (0, 1, 1), (0, 1, 3), (0, 1, -1), [0, 1, 2], (0, True, 2), (False, 1, 2), "012",
            (0, 1, None), (0, 1, (2,)), (0, [1], 2), {0: 0, 1: 1, 2: 2},
        )
        for order in wrong:
            self.fails(BadOrder, renamed, THREE, order)
            self.fails(BadOrder, renamed_plan, THREE, ((6,), (4,), (2,)), order)
        self.fails(BadPlan, renamed_plan, THREE, ((6,), (4,), (3,)), (0, 1), wheel=2)
        self.fails(BadPlan, renamed_plan, THREE, ((6,), (4,)), None, wheel=None)
        self.fails(BadClock, renamed_plan, None, None, None, part="clock")


class TurnedTest(Case):

    def test_the_rest_less_by(self):
        for seed in range(80):
            clock = some_clock(seed)
            for by in (0, 1, 2, 3, 5, 12, 999999, 10 ** 6):
                told = rest(clock, by, (0,) * len(clock[1]))
                if told is not None:
                    told = tuple(tuple(tick - by for tick in ticks) for ticks in told)
                self.assertEqual(earliest(turned(clock, by)), told)

    def test_edges(self):
        for clock in SAMPLES:
            self.assertEqual(turned(clock, 0), clock)
            self.assertEqual(turned(clock, clock[0]), clock)
            self.assertEqual(turned(turned(clock, 1), clock[0] - 1), clock)
        self.assertEqual(turned(SKIPS, 1)[2:4], (((1, 0, 1), (3, 0, 1)), ((0, 2), (0, 1, 3))))
        self.assertEqual(turned(THREE, 10 ** 6), turned(THREE, 1))

    def test_wrong_numbers(self):
        for by in (-1, 10 ** 6 + 1, None, True, False, "1", (1,), [], {}):
            self.fails(BadNumber, turned, THREE, by)
        self.fails(BadClock, turned, (1, (5,), (), ((0,),), ()), -1, part="editions")


class PartsTest(Case):

    def test_by_hand(self):
        self.assertEqual(parts(THREE), ((0, 1, 2),))
        self.assertEqual(parts(LONE), ((0,),))
        self.assertEqual(parts(STILL), ((0,), (1,), (2,)))
        self.assertEqual(parts(ROW), (tuple(range(12)),))

    def test_both_touch_and_need_are_wanted(self):
        gaps = ((0,),) * 4
        book = ((0, 1, 3, 1), (2, 1, 1, 1))
        self.assertEqual(parts((2, (1,) * 4, (), gaps, book)), ((0,), (1,), (2,), (3,)))
        self.assertEqual(parts((2, (1,) * 4, ((0, 0, 3), (1, 0, 1)), gaps, book)), ((0, 3), (1,), (2,)))
        self.assertEqual(parts((2, (1,) * 4, ((0, 1, 2), (1, 0, 3)), gaps, book)), ((0, 3), (1, 2)))
        self.assertEqual(
            parts((1, (1,) * 5, ((0, 0, 4), (0, 1, 3), (0, 2, 4)), ((0,),) * 5, ((0, 1, 4, 1), (4, 1, 2, 1)))),
            ((0, 2, 4), (1,), (3,)),
        )

    def test_the_earliest_plan_is_that_of_the_parts(self):
        several = 0
        for seed in range(150):
            clock = some_clock(seed, most_wheels=5)
            lots = parts(clock)
            self.assertEqual(sorted(wheel for lot in lots for wheel in lot), list(range(len(clock[1]))))
            self.assertEqual([lot[0] for lot in lots], sorted(lot[0] for lot in lots))
            plans = [earliest(part_of(clock, lot)) for lot in lots]
            if None in plans:
                self.assertIsNone(earliest(clock))
            else:
                rows = {wheel: row for lot, plan in zip(lots, plans) for wheel, row in zip(lot, plan)}
                self.assertEqual(earliest(clock), tuple(rows[wheel] for wheel in range(len(clock[1]))))
            several += len(lots) > 1
            for lot in lots:
                self.assertEqual(parts(part_of(clock, lot)), (tuple(range(len(lot))),))
        self.assertGreater(several, 50)


class PartOfTest(Case):

    def test_by_hand(self):
        self.assertEqual(part_of(THREE, (0, 1, 2)), THREE)
        self.assertEqual(part_of(THREE, (1, 2)), (3, (1, 1), ((1, 0, 1),), ((1,), (2,)), ((0, 1, 1, 1),)))
        self.assertEqual(part_of(THREE, (0, 2)), (3, (1, 1), ((2, 0, 1),), ((0,), (2,)), ()))
        self.assertEqual(part_of(THREE, (1,)), (3, (1,), (), ((1,),), ()))
        self.assertEqual(part_of(STILL, (0, 2)), (12, (0, 0), ((5, 0, 1),), ((), ()), ()))

    def test_wrong_wheels(self):
        wrong = (
            None, (), (3,), (-1,), (1, 0), (0, 0), (0, 1, 1), [0, 1], (True,), (0, None), ("0",), "0", 0, {0: 1},
            ((0,),), ([0],), (0, 1, 2, 3),
        )
        for wheels in wrong:
            self.fails(BadOrder, part_of, THREE, wheels)
        self.fails(BadClock, part_of, None, (), part="clock")
        self.fails(BadClock, parts, (3, (1,), (), ((3,),), ()), part="gaps")
