"""Points 44 and 45: what plans cost, a cheapest one, and the paper that shows that none is cheaper."""

import random

from livingclock.clocks import exchanges
from livingclock.errors import BadClock, BadNumber, BadPlan, BadPrices
from livingclock.earliest import earliest
from livingclock.lattices import latest
from livingclock.plans import is_right
from livingclock.prices import cheapest, price, shows_cheapest
from tests.samples import (
    JUNK, LONE, PAIR, STUCK, THREE, Case, changed, plain_exchanges, plain_leans, plain_plans, plain_push, some_clock,
)

EXAMPLE = (1, (1, 1), ((0, 0, 1),), ((0,), (0,)), ((0, 1, 1, 1),))
PRICES = ((0, 3), (5, 1))
ANSWER = (((1,), (1,)), 4, ((((1, 1), 1), ((0, 1), 1), 3),))


def some_prices(chance, clock, before, most):
    """Return prices up to a greatest one."""
    return tuple(tuple(chance.randint(0, most) for _ in range(before)) for _ in exchanges(clock))


def plain_price(clock, prices, plan):
    """Add up the prices of all exchanges of a plan."""
    return sum(
        prices[place][plan[wheel][edition - 1]] for place, (wheel, edition) in enumerate(plain_exchanges(clock))
    )


def plain_shown(clock, before, prices, paper):
    """Return the price that a paper shows, as point 45 tells it; None if a triple is no triple of it."""
    first, last = earliest(clock), latest(clock, before)
    costs = dict(zip(plain_exchanges(clock), prices))
    gains, former = {}, {}
    for wheel, edition in plain_exchanges(clock):
        low, high = first[wheel][edition - 1], last[wheel][edition - 1]
        row = [tick for tick in range(low, high + 1) if tick % clock[0] in clock[3][wheel]]
        for gap, tick in zip(row, row[1:]):
            step = ((wheel, edition), tick)
            gains[step] = costs[(wheel, edition)][tick] - costs[(wheel, edition)][gap]
            former[step] = ((wheel, edition), gap)
    sums = dict(gains)
    for step, wanted, amount in paper:
        able = [former[step]] + [
            (exchange, plain_push(clock, exchange, step[0], step[1]))
            for exchange in plain_exchanges(clock) if plain_leans(clock, exchange, step[0])
        ]
        if wanted not in able or wanted not in gains or not 1 <= amount <= 10 ** 9:
            return None
        sums[step] += amount
        sums[wanted] -= amount
    return plain_price(clock, prices, first) + sum(min(0, gain) for gain in sums.values())


def some_markets(many):
    """Return a list of tuples: a clock, a before, prices, all right plans ahead."""
    told = []
    for seed in range(many):
        clock = some_clock(seed, most_period=4, most_wheels=4, most_edition=3)
        chance = random.Random(seed)
        before = chance.randint(1, 14)
        found = plain_plans(clock, before)
        if found is not None:
            prices = some_prices(chance, clock, before, chance.choice((1, 3, 20, 10 ** 6)))
            told.append((clock, before, prices, found))
    return told


class ExamplesTest(Case):

    def test_examples(self):
        self.assertEqual(cheapest(EXAMPLE, 2, PRICES), ANSWER)
        self.assertIs(shows_cheapest(EXAMPLE, 2, PRICES, ANSWER), True)


class PriceTest(Case):

    def test_all_plans(self):
        self.assertEqual(price(EXAMPLE, 2, PRICES, ((0,), (0,))), 5)
        self.assertEqual(price(EXAMPLE, 2, PRICES, ((1,), (1,))), 4)
        # A plan that isn't right has its price, too.
        self.assertEqual(price(EXAMPLE, 2, PRICES, ((0,), (1,))), 1)
        self.assertEqual(price(LONE, 5, (), ((),)), 0)
        for clock, before, prices, found in some_markets(100):
            for plan in found[:20]:
                self.assertEqual(price(clock, before, prices, plan), plain_price(clock, prices, plan))

    def test_plans_that_are_not_ahead(self):
        self.fails(BadPlan, price, EXAMPLE, 2, PRICES, ((2,), (0,)), wheel=None)
        self.fails(BadPlan, price, EXAMPLE, 2, PRICES, ((0,), (100000,)), wheel=None)
        self.fails(BadPlan, price, EXAMPLE, 2, PRICES, ((2,), (100001,)), wheel=1)
        self.fails(BadPlan, price, EXAMPLE, 2, PRICES, ((0,),), wheel=None)
        self.fails(BadPlan, price, EXAMPLE, 2, PRICES, ([0], (0,)), wheel=0)

    def test_wrong_prices(self):
        wrong = JUNK + (
            ((0, 3),), ((0, 3), (5, 1), (0, 0)), ((0, 3), (5,)), ((0, 3), (5, 1, 0)), ((0, 3), [5, 1]),
            [(0, 3), (5, 1)], ((0, 3), (5, -1)), ((0, 3), (5, 10 ** 6 + 1)), ((0, 3), (5, True)), ((0, 3), (5, None)),
            ((0, 3), (5, "1")), ((0, 3), None), ((0, 3), 5), ((0, 3), {0: 5, 1: 1}),
        )
        for call, more in ((price, (None,)), (cheapest, ()), (shows_cheapest, (None,))):
            for prices in wrong:
                self.fails(BadPrices, call, EXAMPLE, 2, prices, *more)
            for before in (0, 61, -1, None, True, "2", [], ()):
                self.fails(BadNumber, call, EXAMPLE, before, None, *more)
            self.fails(BadClock, call, None, 0, None, *more, part="clock")
            self.fails(BadPrices, call, LONE, 1, ((0,),), *more)
        self.assertEqual(price(EXAMPLE, 2, ((0, 10 ** 6), (0, 10 ** 6)), ((1,), (1,))), 2 * 10 ** 6)


class CheapestTest(Case):

    def test_against_all_plans(self):
        counts = {"none": 0, "earliest": 0, "later": 0, "papers": 0}
        for clock, before, prices, found in some_markets(700):
            told = cheapest(clock, before, prices)
            if not found:
                self.assertIsNone(told)
                counts["none"] += 1
                continue
            plan, cost, paper = told
            self.assertIn(plan, found)
            self.assertEqual(cost, min(plain_price(clock, prices, other) for other in found))
            self.assertEqual(cost, plain_price(clock, prices, plan))
            self.assertEqual(plain_shown(clock, before, prices, paper), cost)
            self.assertIs(shows_cheapest(clock, before, prices, told), True)
            counts["earliest" if plan == earliest(clock) else "later"] += 1
            counts["papers"] += len(paper) > 1
        for name, many in counts.items():
            self.assertGreater(many, 40, name)

    def test_edges(self):
        self.assertEqual(cheapest(LONE, 1, ()), (((),), 0, ()))
        self.assertIsNone(cheapest(STUCK, 2, ((0, 0), (0, 0))))
        self.assertIsNone(cheapest(THREE, 6, ((0,) * 6,) * 3))
        self.assertEqual(cheapest(THREE, 7, ((9,) * 7,) * 3), (((6,), (4,), (2,)), 27, ()))
        self.assertEqual(cheapest((1, (1,), (), ((0,),), ()), 1, ((10 ** 6,),)), (((0,),), 10 ** 6, ()))

    def test_two_that_go_together(self):
        # Wheel 1 saves more at tick 3 than wheel 0 then costs.
        clock = (2, (1, 1), ((0, 0, 1), (1, 0, 1)), ((0, 1), (1,)), ((0, 1, 1, 1), (1, 1, 0, 1)))
        told = cheapest(clock, 4, ((0, 0, 0, 6), (0, 9, 0, 2)))
        self.assertEqual(told[:2], (((3,), (3,)), 8))
        self.assertEqual(plain_shown(clock, 4, ((0, 0, 0, 6), (0, 9, 0, 2)), told[2]), 8)

    def test_great_markets(self):
        wide = (1, (2,) * 12, (), ((0,),) * 12, ())
        chain = (
            1, (2,) * 12, tuple((0, i, i + 1) for i in range(11)), ((0,),) * 12,
            tuple((i, a, i + 1, a) for i in range(11) for a in (1, 2)),
        )
        for clock in (wide, chain):
            for most in (1, 1000, 10 ** 6):
                prices = some_prices(random.Random(most), clock, 60, most)
                told = cheapest(clock, 60, prices)
                self.assertTrue(is_right(clock, told[0]))
                self.assertEqual(plain_price(clock, prices, told[0]), told[1])
                self.assertIs(shows_cheapest(clock, 60, prices, told), True)
            prices = tuple(tuple(10 ** 6 * ((tick + place) % 2) for tick in range(60)) for place in range(24))
            told = cheapest(clock, 60, prices)
            self.assertIs(shows_cheapest(clock, 60, prices, told), True)
            # Falling prices are best paid last.
            falling = (tuple(range(10 ** 6, 10 ** 6 - 60, -1)),) * 24
            self.assertEqual(cheapest(clock, 60, falling)[0], latest(clock, 60))


class ShowsCheapestTest(Case):

    def test_wrong_values(self):
        plan, cost, paper = ANSWER
        triple = paper[0]
        wrong = JUNK + (
            [plan, cost, paper], (plan, cost), (plan, cost, paper, ()), (plan, 5, paper), (plan, True, paper),
            (plan, "4", paper), (plan, None, paper), (((0,), (0,)), 5, paper), (((0,), (0,)), 4, paper),
            (((0,), (1,)), 1, paper), (((1,),), 4, paper), ([[1], [1]], 4, paper), (((True,), (1,)), 4, paper),
            (plan, cost, ()), (plan, cost, list(paper)), (plan, cost, triple), (plan, cost, None),
            (plan, cost, (triple, triple)), (plan, cost, (list(triple),)), (plan, cost, (triple[:2],)),
            (plan, cost, (triple + (1,),)), (plan, cost, ((triple[1], triple[0], 3),)),
            (plan, cost, ((triple[0], triple[0], 3),)), (plan, cost, ((triple[0], triple[1], True),)),
            (plan, cost, ((triple[0], triple[1], 0),)), (plan, cost, ((triple[0], triple[1], -3),)),
            (plan, cost, ((triple[0], triple[1], 2),)), (plan, cost, ((triple[0], triple[1], "3"),)),
            (plan, cost, (triple, (triple[0], triple[1], 10 ** 9 + 1))), (plan, cost, ((None, triple[1], 3),)),
            (plan, cost, ((triple[0], None, 3),)), (plan, cost, ((triple[0], ((0, 1), True), 3),)),
            (plan, cost, ((((1, True), 1), triple[1], 3),)), (plan, cost, ((([1, 1], 1), triple[1], 3),)),
            (plan, cost, ((((1, 1), 0), triple[1], 3),)), (plan, cost, ((triple[0], ((0, 1), 2), 3),)),
            (plan, cost, ((triple[0], ((5, 1), 1), 3),)), (plan, cost, (None,)), (plan, cost, ("abc",)),
            (plan, cost, (3,)), (plan, cost, {0: triple}),
        )
        for value in wrong:
            self.assertIs(shows_cheapest(EXAMPLE, 2, PRICES, value), False, value)

    def test_amounts_of_like_triples_add_up(self):
        plan, cost, paper = ANSWER
        step, wanted, _ = paper[0]
        self.assertIs(shows_cheapest(EXAMPLE, 2, PRICES, (plan, cost, ((step, wanted, 1), (step, wanted, 2)))), True)
        # What the one lacks still may be taken from the other, but no more.
        self.assertIs(shows_cheapest(EXAMPLE, 2, PRICES, (plan, cost, ((step, wanted, 4),))), True)
        self.assertIs(shows_cheapest(EXAMPLE, 2, PRICES, (plan, cost, ((step, wanted, 5),))), False)

    def test_the_greatest_amounts(self):
        # Steps that want each other may give each other what they like, up to the limit.
        clock = (2, (1, 1), ((0, 0, 1), (1, 0, 1)), ((1,), (1,)), ((0, 1, 1, 1), (1, 1, 0, 1)))
        prices = ((0, 5, 0, 5), (0, 4, 0, 4))
        one, other = ((0, 1), 3), ((1, 1), 3)
        for amount, shown in ((1, True), (10 ** 9, True), (10 ** 9 + 1, False), (10 ** 30, False)):
            paper = ((one, other, amount), (other, one, amount))
            self.assertIs(shows_cheapest(clock, 4, prices, (((1,), (1,)), 9, paper)), shown)

    def test_none(self):
        self.assertIs(shows_cheapest(STUCK, 2, ((0, 0), (0, 0)), None), True)
        self.assertIs(shows_cheapest(STUCK, 2, ((0, 0), (0, 0)), (((0,), (1,)), 0, ())), False)
        self.assertIs(shows_cheapest(THREE, 7, ((0,) * 7,) * 3, None), False)
        self.assertIs(shows_cheapest(LONE, 7, (), (((),), 0, ())), True)

    def test_other_papers(self):
        shown = hidden = 0
        for clock, before, prices, found in some_markets(300):
            if not found:
                continue
            told = cheapest(clock, before, prices)
            for place, (step, wanted, amount) in enumerate(told[2][:4]):
                for other in (amount + 1, amount - 1, 2 * amount, 10 ** 9):
                    paper = changed(told[2], place, (step, wanted, other))
                    shows = plain_shown(clock, before, prices, paper) == told[1]
                    self.assertIs(shows_cheapest(clock, before, prices, (told[0], told[1], paper)), shows)
                    shown += shows
                    hidden += not shows
            for plan in found[:20]:
                cost = plain_price(clock, prices, plan)
                self.assertIs(shows_cheapest(clock, before, prices, (plan, cost, told[2])), cost == told[1])
                self.assertIs(shows_cheapest(clock, before, prices, (plan, cost + 1, told[2])), False)
        self.assertGreater(shown, 10)
        self.assertGreater(hidden, 50)

    def test_of_several_cheapest_plans_each_may_be_told(self):
        self.assertIs(shows_cheapest(PAIR, 4, ((0,) * 4,) * 2, (((2,), (1,)), 0, ())), True)
        self.assertIs(shows_cheapest(PAIR, 4, ((0,) * 4,) * 2, (((3,), (3,)), 0, ())), True)
        self.assertIs(shows_cheapest(PAIR, 4, ((0,) * 4,) * 2, (((0,), (1,)), 0, ())), False)
