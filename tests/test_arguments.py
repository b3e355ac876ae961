"""Point 1: any value for any argument, which error comes first, and that no argument is modified."""

import copy
import itertools

from livingclock import (
    charts, clocks, clocktexts, courses, earliest, joinings, lattices, mends, middle, plans, prices, pushes, rings,
    stairs,
)
from livingclock.benches import Bench
from livingclock.errors import (
    BadChoice, BadClock, BadEdition, BadExchange, BadNumber, BadOrder, BadPhase, BadPlan, BadPrices, BadRow,
    BadStanding, BadString, BadTick, BadWheel,
)
from tests.samples import JUNK, LONE, THREE, Case, nested

PLAN = ((6,), (4,), (2,))
PRICES = ((0,) * 7, (1,) * 7, (2,) * 7)
# Each function with right arguments and the error that each argument has for a value of another kind.
CALLS = (
    (clocks.exchanges, (THREE,), (BadClock,)),
    (clocks.needed, (THREE, 0, 1, 2), (BadClock, BadWheel, BadEdition, BadWheel)),
    (clocks.touching, (THREE, 7), (BadClock, BadTick)),
    (plans.edition_at, (THREE, PLAN, 2, 3), (BadClock, BadPlan, BadWheel, BadTick)),
    (plans.wrong_at, (THREE, PLAN, 3), (BadClock, BadPlan, BadTick)),
    (plans.first_wrong, (THREE, PLAN), (BadClock, BadPlan)),
    (plans.is_right, (THREE, PLAN), (BadClock, BadPlan)),
    (plans.mixed, (THREE, PLAN, PLAN, False), (BadClock, BadPlan, BadPlan, BadChoice)),
    (pushes.leaning, (THREE,), (BadClock,)),
    (pushes.push, (THREE, (0, 1), (1, 1), -4), (BadClock, BadExchange, BadExchange, BadTick)),
    (pushes.push_row, (THREE, (0, 1), (1, 1)), (BadClock, BadExchange, BadExchange)),
    (stairs.row_at, ((0, 3, 3), -5), (BadRow, BadTick)),
    (stairs.behind, ((0, 3, 3), (1, 1, 1)), (BadRow, BadRow)),
    (stairs.times, ((0, 3, 3), 5), (BadRow, BadNumber)),
    (stairs.is_below, ((0, 3, 3), (1, 1, 1)), (BadRow, BadRow)),
    (stairs.pace, ((0, 3, 3),), (BadRow,)),
    (earliest.earliest, (THREE,), (BadClock,)),
    (earliest.why, (THREE, (0, 1)), (BadClock, BadExchange)),
    (earliest.shows_why, (THREE, (0, 1), ()), (BadClock, BadExchange, None)),
    (rings.ring, (THREE,), (BadClock,)),
    (rings.shows_ring, (THREE, None), (BadClock, None)),
    (rings.is_ring, (THREE, None), (BadClock, None)),
    (middle.rest, (THREE, 4, (0, 0, 1)), (BadClock, BadTick, BadStanding)),
    (middle.due, (THREE, 4, (0, 0, 1)), (BadClock, BadTick, BadStanding)),
    (middle.safe, (THREE, 4, (0, 0, 1)), (BadClock, BadTick, BadStanding)),
    (middle.may_wait, (THREE, 4, (0, 0, 1)), (BadClock, BadTick, BadStanding)),
    (joinings.together, (THREE, THREE), (BadClock, BadClock)),
    (joinings.slowed, (THREE, 2), (BadClock, BadNumber)),
    (joinings.quickest, (THREE,), (BadClock,)),
    (joinings.renamed, (THREE, (2, 0, 1)), (BadClock, BadOrder)),
    (joinings.renamed_plan, (THREE, PLAN, (2, 0, 1)), (BadClock, BadPlan, BadOrder)),
    (joinings.turned, (THREE, 2), (BadClock, BadNumber)),
    (joinings.parts, (THREE,), (BadClock,)),
    (joinings.part_of, (THREE, (0, 2)), (BadClock, BadOrder)),
    (clocktexts.write_clock, (THREE,), (BadClock,)),
    (clocktexts.read_clock, ("period 1\nwheel 0",), (BadString,)),
    (clocktexts.write_plan, (THREE, PLAN), (BadClock, BadPlan)),
    (clocktexts.read_plan, (THREE, "wheel 6\nwheel 4\nwheel 2"), (BadClock, BadString)),
    (charts.chart, (THREE, PLAN, 7), (BadClock, BadPlan, BadNumber)),
    (charts.read_chart, (THREE, charts.chart(THREE, PLAN, 7)), (BadClock, BadString)),
    (courses.next_standings, (THREE, 2, (0, 0, 1), 3), (BadClock, BadPhase, BadStanding, BadNumber)),
    (courses.shortest, (THREE, 4, (0, 0, 1), 3), (BadClock, BadTick, BadStanding, BadNumber)),
    (courses.shows_shortest, (THREE, 4, (0, 0, 1), 3, None), (BadClock, BadTick, BadStanding, BadNumber, None)),
    (courses.standings, (THREE, 3), (BadClock, BadNumber)),
    (courses.ending, (THREE, 3), (BadClock, BadNumber)),
    (Bench, (THREE,), (BadClock,)),
    (Bench(THREE).exchange, (0,), (BadWheel,)),
    (lattices.plans, (THREE, 7), (BadClock, BadNumber)),
    (lattices.count_plans, (THREE, 7), (BadClock, BadNumber)),
    (lattices.plan_at, (THREE, 7, 0), (BadClock, BadNumber, BadNumber)),
    (lattices.number_of, (THREE, 7, PLAN), (BadClock, BadNumber, BadPlan)),
    (lattices.latest, (THREE, 7), (BadClock, BadNumber)),
    (lattices.way, (THREE, 7), (BadClock, BadNumber)),
    (prices.price, (THREE, 7, PRICES, PLAN), (BadClock, BadNumber, BadPrices, BadPlan)),
    (prices.cheapest, (THREE, 7, PRICES), (BadClock, BadNumber, BadPrices)),
    (prices.shows_cheapest, (THREE, 7, PRICES, None), (BadClock, BadNumber, BadPrices, None)),
    (mends.fewest_gaps, (THREE,), (BadClock,)),
    (mends.shows_fewest_gaps, (THREE, None), (BadClock, None)),
    (mends.fewest_entries, (THREE,), (BadClock,)),
    (mends.shows_fewest_entries, (THREE, None), (BadClock, None)),
)
# Values that are of the wrong kind for every argument there is.
NEVER = (None, "", "three", [], [0], {}, {0: 1}, (None,), ((), []), ("0", 1), 10 ** 40, -10 ** 40)
FIELDS = {BadClock: {"part": "clock"}, BadPlan: {"wheel": None}}


class ArgumentsTest(Case):

    def test_right_arguments(self):
        for call, arguments, _ in CALLS:
            if call.__name__ != "exchange":
                call(*arguments)

    def test_each_argument_by_itself(self):
        for call, arguments, errors in CALLS:
            for place, error in enumerate(errors):
                for value in NEVER:
                    given = arguments[:place] + (value,) + arguments[place + 1:]
                    if error is BadString and isinstance(value, str):
                        continue
                    if error is None:
                        self.assertIs(call(*given).__class__, bool)
                    else:
                        self.fails(error, call, *given, **FIELDS.get(error, {}))

    def test_booleans_are_no_integers(self):
        for call, arguments, errors in CALLS:
            for place, error in enumerate(errors):
                if isinstance(arguments[place], int) and error is not BadChoice:
                    for value in (True, False):
                        self.fails(error, call, *arguments[:place], value, *arguments[place + 1:])

    def test_the_leftmost_error_comes_first(self):
        for call, arguments, errors in CALLS:
            for wrong in itertools.product((True, False), repeat=len(errors)):
                places = [place for place, told in enumerate(wrong) if told and errors[place] is not None]
                if places:
                    given = tuple(None if told else value for told, value in zip(wrong, arguments))
                    error = errors[places[0]]
                    self.fails(error, call, *given, **FIELDS.get(error, {}))

    def test_values_of_shows_functions(self):
        for call, arguments, _ in CALLS:
            if call.__name__.startswith("shows") or call.__name__ == "is_ring":
                for value in JUNK + NEVER + (THREE, PLAN, nested(20000), (nested(20000),), ((nested(20000),),)):
                    self.assertIs(call(*arguments[:-1], value).__class__, bool)

    def test_no_argument_is_modified(self):
        for call, arguments, errors in CALLS:
            for place in range(len(errors)):
                for value in ([0, 1], {"a": [1]}, ([0], {}), [[0], [1]]):
                    kept = copy.deepcopy(value)
                    try:
                        call(*arguments[:place], value, *arguments[place + 1:])
                    except ValueError:
                        pass
                    self.assertEqual(value, kept)

    def test_equal_arguments_have_equal_answers(self):
        for call, arguments, _ in CALLS:
            if call is not Bench and call.__name__ != "exchange":
                self.assertEqual(call(*arguments), call(*copy.deepcopy(arguments)))

    def test_names_of_the_arguments(self):
        self.assertEqual(clocks.needed(clock=THREE, wheel=0, edition=1, other=1), 1)
        self.assertEqual(clocks.touching(clock=THREE, tick=0), ((0, 1),))
        self.assertEqual(plans.edition_at(clock=THREE, plan=PLAN, wheel=0, tick=6), 1)
        self.assertEqual(plans.mixed(clock=THREE, one=PLAN, other=PLAN, later=True), PLAN)
        self.assertEqual(pushes.push(clock=THREE, exchange=(0, 1), other=(1, 1), tick=4), 6)
        self.assertEqual(stairs.behind(one=(1,), other=(2,)), (3,))
        self.assertEqual(stairs.times(row=(1,), many=3), (3,))
        self.assertIs(stairs.is_below(one=(1,), other=(2,)), True)
        self.assertIs(earliest.shows_why(clock=THREE, exchange=(0, 1), value=None), False)
        self.assertIs(rings.shows_ring(clock=THREE, value=None), True)
        self.assertEqual(middle.rest(clock=THREE, tick=0, standing=(1, 1, 1)), ((), (), ()))
        self.assertEqual(joinings.together(one=LONE, other=LONE)[1], (0, 0))
        self.assertEqual(joinings.slowed(clock=LONE, many=3)[0], 3)
        self.assertEqual(joinings.renamed_plan(clock=THREE, plan=PLAN, order=(0, 1, 2)), PLAN)
        self.assertEqual(joinings.turned(clock=LONE, by=3), LONE)
        self.assertEqual(joinings.part_of(clock=LONE, wheels=(0,)), LONE)
        self.assertEqual(clocktexts.read_clock(text="period 1\nwheel 0"), LONE)
        self.assertEqual(clocktexts.read_plan(clock=LONE, text="wheel"), ((),))
        self.assertEqual(charts.chart(clock=LONE, plan=((),), many=1), "0: 0")
        self.assertEqual(charts.read_chart(clock=LONE, text="0: 0"), ((),))
        self.assertEqual(courses.next_standings(clock=LONE, phase=0, standing=(0,), hands=0), ((0,),))
        self.assertIs(courses.shows_shortest(clock=LONE, tick=0, standing=(0,), hands=0, value=()), True)
        self.assertIsNone(Bench(clock=THREE).exchange(wheel=0))
        self.assertEqual(lattices.plan_at(clock=THREE, before=7, number=0), PLAN)
        self.assertEqual(lattices.number_of(clock=THREE, before=7, plan=PLAN), 0)
        self.assertEqual(lattices.way(clock=LONE, before=1), (((),),))
        self.assertEqual(prices.price(clock=LONE, before=1, prices=(), plan=((),)), 0)
        self.assertIs(prices.shows_cheapest(clock=LONE, before=1, prices=(), value=None), False)
        self.assertIs(mends.shows_fewest_gaps(clock=LONE, value=((), ())), True)
        self.assertIs(mends.shows_fewest_entries(clock=LONE, value=((), ())), True)
