"""Points 60 and 61: news of a plan, and what they tell."""

import itertools
import random

from livingclock.errors import BadClock, BadNews, BadNumber, BadPlan, BadTick, BadWatch, TooMany
from livingclock.lattices import count_plans, latest
from livingclock.seen import count_fitting, fewest_watched, fitting, news, sure
from tests.samples import JUNK, LONE, PAIR, ROW, STUCK, THREE, Case, plain_plans, plain_standing, some_clock

FAR = 10 ** 30
EXAMPLE = (2, (1, 1), ((0, 0, 1),), ((0, 1), (1,)), ((0, 1, 1, 1),))
TOLD = ((0, 0, 1, 0, 0), (2, 0, 1, 1, 1))
PLAN = ((6,), (4,), (2,))
WRONG_BEFORE = (0, -1, 61, FAR, None, True, False, "3", (), (3,), [], {})
WRONG_WATCHES = JUNK + (
    ((0, 0, 1, 0),), ((0, 0, 2),), ((0, 1, 0),), ((3, 0, 1),), ((0, 0, 1), (0, 0, 1)), ((1, 1, 2), (0, 0, 1)),
    ((0, False, 1),), ((False, 0, 1),), ((0, 0, True),), [(0, 0, 1)], ([0, 0, 1],), ((0, 0, 1), None), ((0, 1),),
)
WRONG_NEWS = JUNK + (
    ((0, 0, 1, 0),), ((0, 0, 1, 0, 0, 0),), ((0, 0, 2, 0, 0),), ((1, 0, 1, 0, 0),), ((0, 1, 0, 0, 0),),
    ((7, 1, 2, 0, 0),), ((-3, 0, 1, 0, 0),), ((0, 0, 1, 2, 0),), ((0, 0, 1, 0, 2),), ((0, 0, 1, -1, 0),),
    ((0, 0, 1, 0, True),), ((0, 0, 1, False, 0),), ((False, 0, 1, 0, 0),), ((0, False, 1, 0, 0),),
    ((0, 0, True, 0, 0),), ((0, 0, 1, 0, 0), (0, 0, 1, 0, 0)), ((0, 0, 1, 0, 0), (0, 0, 1, 1, 0)),
    ((3, 0, 1, 0, 0), (0, 0, 1, 0, 0)), [(0, 0, 1, 0, 0)], ([0, 0, 1, 0, 0],), ((0, 0, 1, 0, None),),
    ((0, 0, 3, 0, 0),), ((0, "0", 1, 0, 0),), ((0, 0, 1, 0, 0), ()),
)


def plain_news(clock, before, plan, watch):
    """Return what news does, tick by tick."""
    told = []
    for tick in range(before):
        standing = plain_standing(plan, tick)
        for phase, i, j in watch:
            if phase == tick % clock[0]:
                told.append((tick, i, j, standing[i], standing[j]))
    return tuple(sorted(told))


def do_fit(plan, told):
    """Tell whether a plan has the editions that news tell."""
    return all(
        plain_standing(plan, tick)[i] == edition and plain_standing(plan, tick)[j] == other
        for tick, i, j, edition, other in told
    )


def some_told(many):
    """Return a list of tuples: a clock, a before, the right plans ahead, news."""
    told = []
    for seed in range(many):
        chance = random.Random(seed)
        clock = some_clock(seed, most_period=4, most_wheels=3, most_edition=3)
        before = chance.randint(1, 14)
        found = plain_plans(clock, before)
        if found is None:
            continue
        watch = tuple(touch for touch in clock[2] if chance.random() < 0.6)
        if found:
            reports = plain_news(clock, before, chance.choice(found), watch)
            told.append((clock, before, found, tuple(part for part in reports if chance.random() < 0.5)))
        # News of what may not be right, or not even be.
        wild = []
        for tick in range(before):
            for phase, i, j in clock[2]:
                if phase == tick % clock[0] and chance.random() < 0.2:
                    wild.append((tick, i, j, chance.randint(0, clock[1][i]), chance.randint(0, clock[1][j])))
        told.append((clock, before, found, tuple(wild)))
    return told


class ExamplesTest(Case):

    def test_examples(self):
        told = news(EXAMPLE, 4, ((2,), (1,)), ((0, 0, 1),))
        self.assertEqual(told, TOLD)
        self.assertEqual(fitting(EXAMPLE, 4, told), (((1,), (1,)), ((2,), (1,))))
        self.assertEqual(sure(EXAMPLE, 4, told, 1), ((0, 1), (1, 1)))


class NewsTest(Case):

    def test_tick_by_tick(self):
        for seed in range(200):
            chance = random.Random(seed)
            clock = some_clock(seed, 5, 4, 3)
            plan = tuple(
                tuple(sorted(chance.sample([tick for tick in range(40) if tick % clock[0] in phases], last)))
                for last, phases in zip(clock[1], clock[3])
            )
            watch = tuple(touch for touch in clock[2] if chance.random() < 0.5)
            before = chance.randint(1, 60)
            self.assertEqual(news(clock, before, plan, watch), plain_news(clock, before, plan, watch))

    def test_edges(self):
        self.assertEqual(news(LONE, 60, ((),), ()), ())
        self.assertEqual(news(THREE, 60, PLAN, ()), ())
        self.assertEqual(news(THREE, 1, PLAN, ((1, 1, 2),)), ())
        self.assertEqual(news(THREE, 2, PLAN, ((1, 1, 2),)), ((1, 1, 2, 0, 0),))
        # Any plan has news, right or not, ahead or not; only the touches of the watch are seen.
        self.assertEqual(news(THREE, 7, ((0,), (4,), (99998,)), THREE[2][:2]), (
            (0, 0, 1, 1, 0), (1, 1, 2, 0, 0), (3, 0, 1, 1, 0), (4, 1, 2, 1, 0), (6, 0, 1, 1, 1),
        ))
        twice = (2, (1, 1), ((0, 0, 1), (1, 0, 1)), ((0, 1), (1,)), ())
        self.assertEqual(news(twice, 4, ((1,), (1,)), ((1, 0, 1),)), ((1, 0, 1, 1, 1), (3, 0, 1, 1, 1)))

    def test_wrong_arguments(self):
        for watch in WRONG_WATCHES:
            if watch != ():
                self.fails(BadWatch, news, THREE, 7, PLAN, watch)
        self.fails(BadPlan, news, THREE, 7, ((6,), (4,)), None, wheel=None)
        self.fails(BadPlan, news, THREE, 7, ((6,), (5,), (2,)), None, wheel=1)
        for before in WRONG_BEFORE:
            self.fails(BadNumber, news, THREE, before, None, None)
        self.fails(BadClock, news, None, 0, None, None, part="clock")


class FittingTest(Case):

    def test_against_all_plans(self):
        counts = {"none": 0, "some": 0, "all": 0, "one": 0}
        for clock, before, found, told in some_told(450):
            able = [plan for plan in found if do_fit(plan, told)]
            self.assertEqual(count_fitting(clock, before, told), len(able), (clock, before, told))
            pair = fitting(clock, before, told)
            if not able:
                self.assertIsNone(pair, (clock, before, told))
                self.assertIsNone(sure(clock, before, told, 0))
                counts["none"] += bool(found)
                continue
            counts["all" if len(able) == len(found) else "some"] += 1
            counts["one"] += len(able) == 1 < len(found)
            ticks = [[tick for row in plan for tick in row] for plan in able]
            early, late = [list(map(least, zip(*ticks))) for least in (min, max)]
            self.assertEqual([[tick for row in plan for tick in row] for plan in pair], [early, late])
            self.assertTrue(pair[0] in able and pair[1] in able)
            for tick in range(before + 2):
                rows = list(zip(*[plain_standing(plan, tick) for plan in able]))
                spans = tuple((min(row), max(row)) for row in rows)
                self.assertEqual(sure(clock, before, told, tick), spans, (clock, before, told, tick))
        self.assertGreater(min(counts.values()), 25, counts)

    def test_edges(self):
        self.assertEqual(fitting(LONE, 1, ()), (((),), ((),)))
        self.assertEqual([count_fitting(LONE, 1, ()), sure(LONE, 1, (), FAR)], [1, ((0, 0),)])
        self.assertIsNone(fitting(STUCK, 60, ()))
        self.assertEqual(count_fitting(STUCK, 60, ()), 0)
        self.assertIsNone(sure(STUCK, 60, (), 5))
        self.assertEqual(fitting(THREE, 7, ()), (PLAN, PLAN))
        self.assertEqual(fitting(THREE, 10, ()), (PLAN, latest(THREE, 10)))
        self.assertEqual(sure(THREE, 10, (), FAR), ((1, 1),) * 3)
        self.assertEqual(count_fitting(ROW, 60, ()), count_plans(ROW, 60))
        # An edition that is seen can't be seen as an older one later.
        self.assertIsNone(fitting(EXAMPLE, 6, ((0, 0, 1, 0, 1), (2, 0, 1, 1, 0))))
        self.assertIsNone(fitting(EXAMPLE, 6, ((2, 0, 1, 1, 1), (4, 0, 1, 0, 1))))
        self.assertEqual(fitting(EXAMPLE, 6, ((2, 0, 1, 0, 1), (4, 0, 1, 1, 1))), (((3,), (1,)), ((4,), (1,))))
        # Editions between two that are seen are told, too: of four the third is there, seen first at tick 2.
        many = (1, (4, 0), ((0, 0, 1),), ((0,), ()), ())
        self.assertEqual(fitting(many, 9, ((2, 0, 1, 3, 0),)), (((0, 1, 2, 3), ()), ((0, 1, 2, 8), ())))

    def test_wrong_arguments(self):
        for told in WRONG_NEWS:
            if told != ():
                self.fails(BadNews, fitting, THREE, 7, told)
                self.fails(BadNews, count_fitting, THREE, 7, told)
                self.fails(BadNews, sure, THREE, 7, told, -1)
        for tick in (-1, FAR + 1, None, True, False, "0", (), (0,), [], {}):
            self.fails(BadTick, sure, THREE, 7, (), tick)
            self.fails(BadTick, sure, STUCK, 7, (), tick)
        for call, more in ((fitting, ()), (count_fitting, ()), (sure, (-1,))):
            for before in WRONG_BEFORE:
                self.fails(BadNumber, call, THREE, before, None, *more)
            self.fails(BadClock, call, None, 0, None, *more, part="clock")
        # The last tick below is one that may be told of, the next one isn't.
        self.assertIsNotNone(fitting(THREE, 7, ((6, 0, 1, 1, 1),)))
        self.fails(BadNews, fitting, THREE, 6, ((6, 0, 1, 1, 1),))


class FewestWatchedTest(Case):

    def plain_fewest(self, clock, before, plan, found):
        """Try all watches, the shortest ones first."""
        for many in range(len(clock[2]) + 1):
            for watch in itertools.combinations(clock[2], many):
                told = plain_news(clock, before, plan, watch)
                if [other for other in found if do_fit(other, told)] == [plan]:
                    return watch
        return None

    def test_against_all_watches(self):
        sizes = {}
        for seed in range(260):
            clock = some_clock(seed, most_period=5, most_wheels=4, most_edition=2)
            before = random.Random(seed).randint(3, 12)
            found = plain_plans(clock, before)
            if not found or len(found) > 150 or len(clock[2]) > 9:
                continue
            for plan in random.Random(seed).sample(found, min(3, len(found))):
                watch = fewest_watched(clock, before, plan)
                self.assertEqual(watch, self.plain_fewest(clock, before, plan, found), (clock, before, plan))
                size = None if watch is None else len(watch)
                sizes[size] = sizes.get(size, 0) + 1
        self.assertGreater(min([sizes.get(size, 0) for size in (None, 0, 1, 2)]), 10, sizes)

    def test_edges(self):
        self.assertEqual(fewest_watched(LONE, 1, ((),)), ())
        self.assertEqual(fewest_watched(THREE, 7, PLAN), ())
        self.assertIsNone(fewest_watched(EXAMPLE, 4, ((2,), (1,))))
        self.assertIsNone(fewest_watched(PAIR, 3, ((1,), (1,))))
        self.assertEqual(fewest_watched(PAIR, 4, ((3,), (3,))), ((0, 0, 1),))
        free = (1, (1,), (), ((0,),), ())
        self.assertEqual(fewest_watched(free, 1, ((0,),)), ())
        self.assertIsNone(fewest_watched(free, 2, ((0,),)))

    def test_wide_clocks(self):
        # Each wheel is seen only where it touches wheel 0: all of these touches are needed.
        star = (1, (0,) + (1,) * 11, tuple((0, 0, j) for j in range(1, 12)), ((),) + ((0,),) * 11, ())
        self.assertEqual(fewest_watched(star, 60, ((),) + ((30,),) * 11), star[2])
        line = (2, (2,) * 11 + (0,), tuple((0, j, j + 1) for j in range(11)), ((1,),) * 12, ())
        self.assertEqual(len(fewest_watched(line, 20, ((3, 5),) * 11 + ((),))), 6)

    def test_wrong_arguments(self):
        for value in JUNK + (((6,), (4,)), [(6,), (4,), (2,)]):
            if not isinstance(value, tuple) or len(value) != 3:
                self.fails(BadPlan, fewest_watched, THREE, 7, value, wheel=None)
        self.fails(BadPlan, fewest_watched, THREE, 7, ((6,), (5,), (2,)), wheel=1)
        self.fails(BadPlan, fewest_watched, THREE, 7, ((3,), (4,), (2,)), wheel=None)
        self.fails(BadPlan, fewest_watched, THREE, 6, PLAN, wheel=None)
        self.fails(BadPlan, fewest_watched, THREE, 7, ((9,), (4,), (2,)), wheel=None)
        for before in WRONG_BEFORE:
            self.fails(BadNumber, fewest_watched, THREE, before, None)
        self.fails(BadClock, fewest_watched, None, 0, None, part="clock")

    def test_too_many_touches(self):
        touches = tuple((phase, 0, 1) for phase in range(12))
        full = (12, (1, 0), touches, ((0,), ()), ())
        self.assertEqual(fewest_watched(full, 13, ((0,), ())), ((0, 0, 1),))
        over = (12, (1, 0, 0), touches + ((11, 0, 2),), ((0,), (), ()), ())
        self.fails(TooMany, fewest_watched, over, 13, ((0,), (), ()), most=12)
        self.fails(BadPlan, fewest_watched, over, 12, ((12,), (), ()), wheel=None)
        self.fails(BadNumber, fewest_watched, over, 0, ((0,), (), ()))
