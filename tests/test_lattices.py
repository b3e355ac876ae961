"""Points 40 to 43: all right plans ahead of a tick, in order, counted, and a way through them."""

import itertools
import math
import random

from livingclock.earliest import earliest
from livingclock.errors import BadClock, BadNumber, BadPlan, TooMany
from livingclock.lattices import Family, Lot, count_plans, latest, number_of, plan_at, plans, way
from livingclock.plans import is_right, mixed
from tests.samples import (
    CHASE, LONE, PAIR, ROW, STILL, STUCK, THREE, Case, nowhere_later, plain_first_wrong, plain_plans, some_clock,
)

EXAMPLE = (2, (1, 1), ((0, 0, 1),), ((0, 1), (1,)), ((0, 1, 1, 1),))
WRONG_BEFORE = (0, -1, 61, 10 ** 30, None, True, False, "3", (), (3,), [], {})


def free(wheels, editions):
    """Return a clock of wheels that never touch and may be exchanged at each tick."""
    return (1, (editions,) * wheels, (), ((0,),) * wheels, ())


def ladder(wheels, editions, pairs):
    """Return a clock in which, of each pair of wheels, each edition of the one needs that of the other."""
    touches = tuple(sorted((0, min(pair), max(pair)) for pair in pairs))
    book = tuple(sorted((i, a, j, a) for i, j in pairs for a in range(1, editions + 1)))
    return (1, (editions,) * wheels, touches, ((0,),) * wheels, book)


def some_families(many):
    """Return a list of triples: a clock, a before, all right plans ahead."""
    told = []
    for seed in range(many):
        clock = some_clock(seed, most_period=4, most_wheels=4, most_edition=3)
        before = random.Random(seed).randint(1, 14)
        found = plain_plans(clock, before)
        if found is not None:
            told.append((clock, before, found))
    return told


class ExamplesTest(Case):

    def test_examples(self):
        self.assertEqual(plans(EXAMPLE, 3), (((1,), (1,)), ((2,), (1,))))
        self.assertEqual(count_plans(EXAMPLE, 6), 9)
        self.assertEqual(latest(EXAMPLE, 4), ((3,), (3,)))
        self.assertEqual(len(way(EXAMPLE, 4)), 4)
        self.fails(BadNumber, plans, LONE, 0)


class PlansTest(Case):

    def test_against_all_plans(self):
        families = some_families(400)
        self.assertGreater(len([found for _, _, found in families if not found]), 50)
        self.assertGreater(len([found for _, _, found in families if len(found) > 20]), 40)
        for clock, before, found in families:
            self.assertEqual(count_plans(clock, before), len(found), (clock, before))
            if len(found) > 1000:
                self.fails(TooMany, plans, clock, before, most=1000)
            else:
                self.assertEqual(plans(clock, before), tuple(found), (clock, before))

    def test_edges(self):
        for before in (1, 2, 60):
            self.assertEqual(plans(LONE, before), (((),),))
            self.assertEqual(plans(STILL, before), (((), (), ()),))
            self.assertEqual(plans(STUCK, before), ())
            self.assertEqual(count_plans(CHASE, before), 0)
        self.assertEqual(plans(THREE, 6), ())
        self.assertEqual(plans(THREE, 7), (((6,), (4,), (2,)),))
        self.assertEqual(plans((1, (1,), (), ((0,),), ()), 1), (((0,),),))
        self.assertEqual(plans(PAIR, 4), (((1,), (1,)), ((2,), (1,)), ((3,), (3,))))

    def test_most(self):
        # Of ten ticks any, for three wheels: just a thousand plans.
        self.assertEqual(plans(free(3, 1), 10), tuple(itertools.product([(tick,) for tick in range(10)], repeat=3)))
        two = (2, (1,) * 2, (), ((0,), (0, 1)), ())
        self.assertEqual(len(plans(two, 44)), 22 * 44)
        self.fails(TooMany, plans, two, 45, most=1000)
        self.fails(TooMany, plans, free(12, 2), 60, most=1000)
        self.fails(TooMany, plans, ladder(12, 2, [(i, i + 1) for i in range(11)]), 60, most=1000)
        self.fails(BadNumber, plans, free(12, 2), 61)
        self.assertEqual(len(plans((3, (1, 1), (), ((0,), (1,)), ()), 60)), 400)


class CountPlansTest(Case):

    def test_free_wheels(self):
        self.assertEqual(count_plans(free(12, 2), 60), math.comb(60, 2) ** 12)
        self.assertEqual(count_plans(free(6, 4), 60), math.comb(60, 4) ** 6)
        self.assertEqual(count_plans((12, (4,), (), ((3,),), ()), 60), 5)

    def test_chains(self):
        # Wheel 0 needs wheel 1, and so on: ticks that fall, not strictly.
        chain = ladder(12, 1, [(i, i + 1) for i in range(11)])
        self.assertEqual(count_plans(chain, 60), math.comb(60 + 11, 12))
        # All of them told, not only the neighbours.
        whole = ladder(12, 1, list(itertools.combinations(range(12), 2)))
        self.assertEqual(count_plans(whole, 60), math.comb(60 + 11, 12))
        backwards = ladder(12, 1, [(i + 1, i) for i in range(11)])
        self.assertEqual(count_plans(backwards, 60), math.comb(60 + 11, 12))

    def test_stars(self):
        star = ladder(12, 1, [(0, j) for j in range(1, 12)])
        self.assertEqual(count_plans(star, 60), sum((tick + 1) ** 11 for tick in range(60)))
        star = ladder(12, 1, [(j, 0) for j in range(1, 12)])
        self.assertEqual(count_plans(star, 60), sum((60 - tick) ** 11 for tick in range(60)))

    def test_two_wheels_of_four_editions(self):
        # Two rows of four rising ticks, one nowhere before the other: by Lindstroem, Gessel and Viennot.
        before = 20
        many = 0
        for ticks in itertools.combinations(range(before), 4):
            ways = {(): 1}
            for place, tick in enumerate(ticks):
                ways = {
                    (last,): sum(n for former, n in ways.items() if not former or former[0] < last)
                    for last in range(place, tick + 1)
                }
            many += sum(ways.values())
        self.assertEqual(count_plans(ladder(2, 4, [(0, 1)]), before), many)

    def test_parts_are_multiplied(self):
        one = ladder(4, 2, [(0, 1), (1, 2)])
        self.assertEqual(count_plans(one, 30), count_plans(ladder(3, 2, [(0, 1), (1, 2)]), 30) * math.comb(30, 2))

    def test_both_ways_of_counting(self):
        compared = 0
        for seed in range(120):
            clock = some_clock(seed, most_period=3, most_wheels=4, most_edition=2)
            family = Family(clock, 16)
            for span in family.whole():
                for exchanges in family.lots(span):
                    lot = Lot(family, span, exchanges)
                    if len(exchanges) > 1:
                        compared += 1
                        many = lot.swept(10 ** 9)
                        self.assertEqual(lot.joined_up(lot.order_and_cost()[0]), many)
                        self.assertEqual(lot.many_plans(), many)
                        self.assertIsNone(lot.swept(1))
        self.assertGreater(compared, 40)


class NumberTest(Case):

    def test_against_all_plans(self):
        for clock, before, found in some_families(250):
            chance = random.Random(before)
            for number in {0, len(found) - 1, *[chance.randrange(len(found) + 1) for _ in range(4)]}:
                if 0 <= number < len(found):
                    self.assertEqual(plan_at(clock, before, number), found[number], (clock, before))
                    self.assertEqual(number_of(clock, before, found[number]), number, (clock, before))
            self.fails(BadNumber, plan_at, clock, before, len(found))
            self.fails(BadNumber, plan_at, clock, before, -1)

    def test_great_numbers(self):
        for clock in (free(6, 4), free(12, 2), ladder(6, 2, [(i, i + 1) for i in range(5)]),
                      ladder(6, 1, [(0, j) for j in range(1, 6)])):
            many = count_plans(clock, 60)
            self.assertEqual(plan_at(clock, 60, 0), earliest(clock))
            self.assertEqual(plan_at(clock, 60, many - 1), latest(clock, 60))
            chance = random.Random(7)
            numbers = sorted(chance.randrange(many) for _ in range(4))
            told = [plan_at(clock, 60, number) for number in numbers]
            self.assertEqual(sorted(told), told)
            for number, plan in zip(numbers, told):
                self.assertTrue(is_right(clock, plan))
                self.assertEqual(number_of(clock, 60, plan), number)
            self.fails(BadNumber, plan_at, clock, 60, many)

    def test_plans_that_are_not_in_the_row(self):
        self.assertEqual(number_of(THREE, 7, ((6,), (4,), (2,))), 0)
        self.assertIsNone(number_of(THREE, 6, ((6,), (4,), (2,))))
        self.assertIsNone(number_of(THREE, 60, ((3,), (4,), (2,))))
        self.assertIsNone(number_of(THREE, 60, ((60,), (4,), (2,))))
        self.assertIsNone(number_of(THREE, 60, ((99999,), (4,), (2,))))
        self.assertIsNone(number_of(STUCK, 60, ((0,), (1,))))
        self.assertEqual(number_of(LONE, 1, ((),)), 0)
        wrong = 0
        for clock, before, found in some_families(60):
            rows = [[tick for tick in range(before + 2) if tick % clock[0] in phases] for phases in clock[3]]
            pools = [list(itertools.combinations(row, last)) for row, last in zip(rows, clock[1])]
            for plan in itertools.islice(itertools.product(*pools), 30):
                number = found.index(plan) if plan in found else None
                self.assertEqual(number_of(clock, before, plan), number)
                wrong += number is None
        self.assertGreater(wrong, 100)

    def test_wrong_arguments(self):
        for number in (-1, 9, 10 ** 40, None, True, False, "1", (), (1,), [], {}):
            self.fails(BadNumber, plan_at, EXAMPLE, 6, number)
        self.fails(BadNumber, plan_at, STUCK, 6, 0)
        self.fails(BadPlan, number_of, EXAMPLE, 6, ((1,), (2,)), wheel=1)
        self.fails(BadPlan, number_of, EXAMPLE, 6, ((1,),), wheel=None)
        self.fails(BadPlan, number_of, EXAMPLE, 6, (([1],), (1,)), wheel=0)


class LatestTest(Case):

    def test_against_all_plans(self):
        for clock, before, found in some_families(300):
            told = latest(clock, before)
            if not found:
                self.assertIsNone(told)
                continue
            self.assertIn(told, found)
            self.assertEqual(found[0], earliest(clock))
            for plan in found:
                self.assertTrue(nowhere_later(plan, told))
                self.assertTrue(nowhere_later(earliest(clock), plan))

    def test_edges(self):
        self.assertIsNone(latest(THREE, 6))
        self.assertEqual(latest(THREE, 7), ((6,), (4,), (2,)))
        self.assertEqual(latest(THREE, 10), ((9,), (7,), (5,)))
        self.assertEqual(latest(THREE, 60), ((57,), (55,), (53,)))
        self.assertEqual(latest(LONE, 60), ((),))
        self.assertIsNone(latest(STUCK, 60))
        self.assertEqual(latest(free(1, 4), 60), ((56, 57, 58, 59),))
        self.assertEqual(latest(PAIR, 60), ((59,), (59,)))
        self.assertTrue(is_right(ladder(12, 2, [(i, i + 1) for i in range(11)]),
                                 latest(ladder(12, 2, [(i, i + 1) for i in range(11)]), 60)))
        self.assertIsNone(latest(ROW, 60))


class WayTest(Case):

    def test_against_all_plans(self):
        long = 0
        for clock, before, found in some_families(300):
            told = way(clock, before)
            if not found:
                self.assertEqual(told, ())
                continue
            self.assertEqual((told[0], told[-1]), (found[0], latest(clock, before)))
            for one, other in zip(told, told[1:]):
                self.assertIn(other, found)
                self.assertTrue(one != other and nowhere_later(one, other))
                if len(found) < 100:
                    between = [plan for plan in found if nowhere_later(one, plan) and nowhere_later(plan, other)]
                    self.assertEqual(len(between), 2)
            long += len(told) > 4
        self.assertGreater(long, 50)

    def test_each_way_has_as_many_plans(self):
        for clock, before, found in some_families(200):
            if 1 < len(found) < 60:
                # Steps are the plans that have just one plan next below them; each way takes each step.
                single = 0
                for plan in found:
                    below = [other for other in found if other != plan and nowhere_later(other, plan)]
                    near = [other for other in below if not any(
                        nowhere_later(other, third) and third != other for third in below)]
                    single += len(near) == 1
                self.assertEqual(len(way(clock, before)), single + 1)

    def test_great_ones(self):
        for clock in (free(6, 4), free(12, 2), ladder(12, 2, [(i, i + 1) for i in range(11)])):
            told = way(clock, 60)
            self.assertEqual((told[0], told[-1]), (earliest(clock), latest(clock, 60)))
            rise = sum(map(sum, told[-1])) - sum(map(sum, told[0]))
            self.assertEqual(len(told), rise + 1)
            for one, other in zip(told, told[1:]):
                self.assertEqual(mixed(clock, one, other, False), one)
            self.assertTrue(all(is_right(clock, plan) for plan in told[::100]))
        self.assertEqual(way(LONE, 1), (((),),))

    def test_several_exchanges_at_once(self):
        # The two must go together, so that each next plan has both of them later.
        clock = (2, (1, 1), ((0, 0, 1), (1, 0, 1)), ((0, 1), (1,)), ((0, 1, 1, 1), (1, 1, 0, 1)))
        self.assertEqual(way(clock, 6), (((1,), (1,)), ((3,), (3,)), ((5,), (5,))))


class WrongBeforeTest(Case):

    def test_wrong_before(self):
        calls = ((plans, ()), (count_plans, ()), (plan_at, (-1,)), (number_of, (None,)), (latest, ()), (way, ()))
        for call, more in calls:
            for before in WRONG_BEFORE:
                self.fails(BadNumber, call, EXAMPLE, before, *more)
            for before in (1, 60):
                if call is not plan_at and call is not number_of and call is not plans:
                    call(EXAMPLE, before, *more)
            self.fails(BadClock, call, (2, (1, 1), ((0, 1, 0),), ((0, 1), (1,)), ()), 0, *more, part="touches")

    def test_plans_are_right(self):
        for plan in plans(EXAMPLE, 8):
            self.assertIsNone(plain_first_wrong(EXAMPLE, plan))
