"""Point 1: any value for any argument, which error comes first, and that no argument is modified."""

import copy
import itertools

from livingclock import (
    backs, charts, clocks, clocktexts, courses, crews, earliest, fleets, joinings, lattices, mends, middle, misses, odds,
    plans, prices, pushes, rings, seen, sessions, stairs, tolls,
)
from livingclock.benches import Bench
from livingclock.desks import Desk
from livingclock.errors import (
    BadChoice, BadClock, BadDuty, BadEdition, BadExchange, BadNews, BadNumber, BadOrder, BadPhase, BadPlan, BadPrices,
    BadRatio, BadRow, BadStanding, BadString, BadTick, BadTolls, BadWatch, BadWheel,
)
from tests.samples import JUNK, LONE, THREE, Case, nested

PLAN = ((6,), (4,), (2,))
PRICES = ((0,) * 7, (1,) * 7, (2,) * 7)
TOLLS = ((0, 1), (2, 3), (4, 5))
TEXT = "period 1\nwheel 0"
SESSION = "| period 1\n| wheel 0"
# Each function with right arguments and the error that each argument has for a value of another kind.
CALLS = (
    (clocks.exchanges, (THREE,), (BadClock,)),
    (clocks.needed, (THREE, 0, 1, 2), (BadClock, BadWheel, BadEdition, BadWheel)),
    (clocks.touching, (THREE, 7), (BadClock, BadTick)),
    (plans.edition_at, (THREE, PLAN, 2, 3), (BadClock, BadPlan, BadWheel, BadTick)),
    (plans.wrong_at, (THREE, PLAN, 3), (BadClock, BadPlan, BadTick)),
    (plans.first_wrong, (THREE, PLAN), (BadClock, BadPlan)),
    (plans.is_right, (THREE, PLAN), (BadClock, BadPlan)),
    (plans.mixed, (THREE, PLAN, PLAN, False), (BadClock, BadPlan, BadPlan, BadChoice)),
    (pushes.leaning, (THREE,), (BadClock,)),
    (pushes.push, (THREE, (0, 1), (1, 1), -4), (BadClock, BadExchange, BadExchange, BadTick)),
    (pushes.push_row, (THREE, (0, 1), (1, 1)), (BadClock, BadExchange, BadExchange)),
    (stairs.row_at, ((0, 3, 3), -5), (BadRow, BadTick)),
    (stairs.behind, ((0, 3, 3), (1, 1, 1)), (BadRow, BadRow)),
    (stairs.times, ((0, 3, 3), 5), (BadRow, BadNumber)),
    (stairs.is_below, ((0, 3, 3), (1, 1, 1)), (BadRow, BadRow)),
    (stairs.pace, ((0, 3, 3),), (BadRow,)),
    (earliest.earliest, (THREE,), (BadClock,)),
    (earliest.why, (THREE, (0, 1)), (BadClock, BadExchange)),
    (earliest.shows_why, (THREE, (0, 1), ()), (BadClock, BadExchange, None)),
    (rings.ring, (THREE,), (BadClock,)),
    (rings.shows_ring, (THREE, None), (BadClock, None)),
    (rings.is_ring, (THREE, None), (BadClock, None)),
    (middle.rest, (THREE, 4, (0, 0, 1)), (BadClock, BadTick, BadStanding)),
    (middle.due, (THREE, 4, (0, 0, 1)), (BadClock, BadTick, BadStanding)),
    (middle.safe, (THREE, 4, (0, 0, 1)), (BadClock, BadTick, BadStanding)),
    (middle.may_wait, (THREE, 4, (0, 0, 1)), (BadClock, BadTick, BadStanding)),
    (joinings.together, (THREE, THREE), (BadClock, BadClock)),
    (joinings.slowed, (THREE, 2), (BadClock, BadNumber)),
    (joinings.quickest, (THREE,), (BadClock,)),
    (joinings.renamed, (THREE, (2, 0, 1)), (BadClock, BadOrder)),
    (joinings.renamed_plan, (THREE, PLAN, (2, 0, 1)), (BadClock, BadPlan, BadOrder)),
    (joinings.turned, (THREE, 2), (BadClock, BadNumber)),
    (joinings.parts, (THREE,), (BadClock,)),
    (joinings.part_of, (THREE, (0, 2)), (BadClock, BadOrder)),
    (clocktexts.write_clock, (THREE,), (BadClock,)),
    (clocktexts.read_clock, ("period 1\nwheel 0",), (BadString,)),
    (clocktexts.write_plan, (THREE, PLAN), (BadClock, BadPlan)),
    (clocktexts.read_plan, (THREE, "wheel 6\nwheel 4\nwheel 2"), (BadClock, BadString)),
    (charts.chart, (THREE, PLAN, 7), (BadClock, BadPlan, BadNumber)),
    (charts.read_chart, (THREE, charts.chart(THREE, PLAN, 7)), (BadClock, BadString)),
    (courses.next_standings, (THREE, 2, (0, 0, 1), 3), (BadClock, BadPhase, BadStanding, BadNumber)),
    (courses.shortest, (THREE, 4, (0, 0, 1), 3), (BadClock, BadTick, BadStanding, BadNumber)),
    (courses.shows_shortest, (THREE, 4, (0, 0, 1), 3, None), (BadClock, BadTick, BadStanding, BadNumber, None)),
    (courses.standings, (THREE, 3), (BadClock, BadNumber)),
    (courses.ending, (THREE, 3), (BadClock, BadNumber)),
    (Bench, (THREE,), (BadClock,)),
    (Bench(THREE).exchange, (0,), (BadWheel,)),
    (lattices.plans, (THREE, 7), (BadClock, BadNumber)),
    (lattices.count_plans, (THREE, 7), (BadClock, BadNumber)),
    (lattices.plan_at, (THREE, 7, 0), (BadClock, BadNumber, BadNumber)),
    (lattices.number_of, (THREE, 7, PLAN), (BadClock, BadNumber, BadPlan)),
    (lattices.latest, (THREE, 7), (BadClock, BadNumber)),
    (lattices.way, (THREE, 7), (BadClock, BadNumber)),
    (prices.price, (THREE, 7, PRICES, PLAN), (BadClock, BadNumber, BadPrices, BadPlan)),
    (prices.cheapest, (THREE, 7, PRICES), (BadClock, BadNumber, BadPrices)),
    (prices.shows_cheapest, (THREE, 7, PRICES, None), (BadClock, BadNumber, BadPrices, None)),
    (mends.fewest_gaps, (THREE,), (BadClock,)),
    (mends.shows_fewest_gaps, (THREE, None), (BadClock, None)),
    (mends.fewest_entries, (THREE,), (BadClock,)),
    (mends.shows_fewest_entries, (THREE, None), (BadClock, None)),
    (misses.sure, (THREE, 1, (0, 0, 1), 2), (BadClock, BadPhase, BadStanding, BadNumber)),
    (misses.most_misses, (THREE, 1, (0, 0, 1)), (BadClock, BadPhase, BadStanding)),
    (misses.deed_for, (THREE, 1, (0, 0, 1), 2), (BadClock, BadPhase, BadStanding, BadNumber)),
    (tolls.toll, (THREE, TOLLS, (0, 0, 1)), (BadClock, BadTolls, BadStanding)),
    (tolls.cheapest_course, (THREE, 4, (0, 0, 1), 3, TOLLS), (BadClock, BadTick, BadStanding, BadNumber, BadTolls)),
    (tolls.least_toll, (THREE, 4, (0, 0, 1), 3, TOLLS), (BadClock, BadTick, BadStanding, BadNumber, BadTolls)),
    (tolls.shows_cheapest_course, (THREE, 4, (0, 0, 1), 3, TOLLS, None),
     (BadClock, BadTick, BadStanding, BadNumber, BadTolls, None)),
    (odds.least_mean, (THREE, 1, (0, 0, 1), (1, 2)), (BadClock, BadPhase, BadStanding, BadRatio)),
    (odds.best_deed, (THREE, 1, (0, 0, 1), (1, 2)), (BadClock, BadPhase, BadStanding, BadRatio)),
    (odds.shows_best_deed, (THREE, 1, (0, 0, 1), (1, 2), None), (BadClock, BadPhase, BadStanding, BadRatio, None)),
    (backs.mirror, (THREE,), (BadClock,)),
    (backs.backwards, (THREE,), (BadClock,)),
    (backs.led_on, (THREE, 4, (0, 0, 1), (0, 1, 1)), (BadClock, BadTick, BadStanding, BadStanding)),
    (backs.led_back, (THREE, 4, (0, 1, 1), (0, 0, 1)), (BadClock, BadTick, BadStanding, BadStanding)),
    (backs.both_ways, (THREE, 4), (BadClock, BadTick)),
    (backs.no_return, (THREE, PLAN), (BadClock, BadPlan)),
    (backs.longest_open, (THREE, 7), (BadClock, BadNumber)),
    (fleets.fleet, (THREE, (1, 2, 2), True), (BadClock, BadNumber, BadChoice)),
    (fleets.by_copies, (THREE, (1, 2, 2), True), (BadClock, BadNumber, BadChoice)),
    (fleets.fleet_rounds, (THREE, (1, 2, 2), True), (BadClock, BadNumber, BadChoice)),
    (fleets.alike, (THREE,), (BadClock,)),
    (seen.news, (THREE, 7, PLAN, ((0, 0, 1),)), (BadClock, BadNumber, BadPlan, BadWatch)),
    (seen.fitting, (THREE, 7, ((0, 0, 1, 0, 0),)), (BadClock, BadNumber, BadNews)),
    (seen.count_fitting, (THREE, 7, ((0, 0, 1, 0, 0),)), (BadClock, BadNumber, BadNews)),
    (seen.sure, (THREE, 7, ((0, 0, 1, 0, 0),), 5), (BadClock, BadNumber, BadNews, BadTick)),
    (seen.fewest_watched, (THREE, 7, PLAN), (BadClock, BadNumber, BadPlan)),
    (crews.served, ((THREE, LONE), (0, None, 1)), (BadNumber, BadDuty)),
    (crews.served_by, ((THREE, LONE), (0, None, 1)), (BadNumber, BadDuty)),
    (crews.best_duty, ((THREE, LONE),), (BadNumber,)),
    (crews.least_phases, (THREE,), (BadClock,)),
    (Desk().read, (TEXT,), (BadString,)),
    (sessions.Session, (TEXT,), (BadString,)),
    (sessions.Session(TEXT).say, ("tick",), (BadString,)),
    (sessions.read_session, (SESSION,), (BadString,)),
    (sessions.first_unlike, (SESSION,), (BadString,)),
)
# Calls that change the object whose method they are, or make one.
CHANGING = ("exchange", "read", "say", "Bench", "Session")
# Values that are of the wrong kind for every argument there is.
NEVER = (None, "", "three", [], [0], {}, {0: 1}, (None,), ((), []), ("0", 1), 10 ** 40, -10 ** 40)
FIELDS = {BadClock: {"part": "clock"}, BadPlan: {"wheel": None}}


class ArgumentsTest(Case):

    def test_right_arguments(self):
        for call, arguments, _ in CALLS:
            if call.__name__ != "exchange":
                call(*arguments)

    def test_each_argument_by_itself(self):
        for call, arguments, errors in CALLS:
            for place, error in enumerate(errors):
                for value in NEVER:
                    given = arguments[:place] + (value,) + arguments[place + 1:]
                    if error is BadString and isinstance(value, str):
                        continue
                    # A tuple of one or two things is of the right number of clocks.
                    told = BadClock if error is BadNumber and place == 0 and isinstance(value, tuple) else error
                    if told is None:
                        self.assertIs(call(*given).__class__, bool)
                    else:
                        self.fails(told, call, *given, **FIELDS.get(told, {}))

    def test_booleans_are_no_integers(self):
        for call, arguments, errors in CALLS:
            for place, error in enumerate(errors):
                if isinstance(arguments[place], int) and error is not BadChoice:
                    for value in (True, False):
                        self.fails(error, call, *arguments[:place], value, *arguments[place + 1:])

    def test_the_leftmost_error_comes_first(self):
        for call, arguments, errors in CALLS:
            for wrong in itertools.product((True, False), repeat=len(errors)):
                places = [place for place, told in enumerate(wrong) if told and errors[place] is not None]
                if places:
                    given = tuple(None if told else value for told, value in zip(wrong, arguments))
                    error = errors[places[0]]
                    self.fails(error, call, *given, **FIELDS.get(error, {}))

    def test_values_of_shows_functions(self):
        for call, arguments, _ in CALLS:
            if call.__name__.startswith("shows") or call.__name__ == "is_ring":
                for value in JUNK + NEVER + (THREE, PLAN, nested(20000), (nested(20000),), ((nested(20000),),)):
                    self.assertIs(call(*arguments[:-1], value).__class__, bool)

    def test_no_argument_is_modified(self):
        for call, arguments, errors in CALLS:
            for place in range(len(errors)):
                for value in ([0, 1], {"a": [1]}, ([0], {}), [[0], [1]]):
                    kept = copy.deepcopy(value)
                    try:
                        call(*arguments[:place], value, *arguments[place + 1:])
                    except ValueError:
                        pass
                    self.assertEqual(value, kept)

    def test_equal_arguments_have_equal_answers(self):
        for call, arguments, _ in CALLS:
            if call.__name__ not in CHANGING:
                self.assertEqual(call(*arguments), call(*copy.deepcopy(arguments)))

    def test_names_of_the_arguments(self):
        self.assertEqual(clocks.needed(clock=THREE, wheel=0, edition=1, other=1), 1)
        self.assertEqual(clocks.touching(clock=THREE, tick=0), ((0, 1),))
        self.assertEqual(plans.edition_at(clock=THREE, plan=PLAN, wheel=0, tick=6), 1)
        self.assertEqual(plans.mixed(clock=THREE, one=PLAN, other=PLAN, later=True), PLAN)
        self.assertEqual(pushes.push(clock=THREE, exchange=(0, 1), other=(1, 1), tick=4), 6)
        self.assertEqual(stairs.behind(one=(1,), other=(2,)), (3,))
        self.assertEqual(stairs.times(row=(1,), many=3), (3,))
        self.assertIs(stairs.is_below(one=(1,), other=(2,)), True)
        self.assertIs(earliest.shows_why(clock=THREE, exchange=(0, 1), value=None), False)
        self.assertIs(rings.shows_ring(clock=THREE, value=None), True)
        self.assertEqual(middle.rest(clock=THREE, tick=0, standing=(1, 1, 1)), ((), (), ()))
        self.assertEqual(joinings.together(one=LONE, other=LONE)[1], (0, 0))
        self.assertEqual(joinings.slowed(clock=LONE, many=3)[0], 3)
        self.assertEqual(joinings.renamed_plan(clock=THREE, plan=PLAN, order=(0, 1, 2)), PLAN)
        self.assertEqual(joinings.turned(clock=LONE, by=3), LONE)
        self.assertEqual(joinings.part_of(clock=LONE, wheels=(0,)), LONE)
        self.assertEqual(clocktexts.read_clock(text="period 1\nwheel 0"), LONE)
        self.assertEqual(clocktexts.read_plan(clock=LONE, text="wheel"), ((),))
        self.assertEqual(charts.chart(clock=LONE, plan=((),), many=1), "0: 0")
        self.assertEqual(charts.read_chart(clock=LONE, text="0: 0"), ((),))
        self.assertEqual(courses.next_standings(clock=LONE, phase=0, standing=(0,), hands=0), ((0,),))
        self.assertIs(courses.shows_shortest(clock=LONE, tick=0, standing=(0,), hands=0, value=()), True)
        self.assertIsNone(Bench(clock=THREE).exchange(wheel=0))
        self.assertEqual(lattices.plan_at(clock=THREE, before=7, number=0), PLAN)
        self.assertEqual(lattices.number_of(clock=THREE, before=7, plan=PLAN), 0)
        self.assertEqual(lattices.way(clock=LONE, before=1), (((),),))
        self.assertEqual(prices.price(clock=LONE, before=1, prices=(), plan=((),)), 0)
        self.assertIs(prices.shows_cheapest(clock=LONE, before=1, prices=(), value=None), False)
        self.assertIs(mends.shows_fewest_gaps(clock=LONE, value=((), ())), True)
        self.assertIs(mends.shows_fewest_entries(clock=LONE, value=((), ())), True)
        self.names_of_ways_and_chances()
        self.names_of_fleets_and_news()

    def names_of_ways_and_chances(self):
        self.assertIs(misses.sure(clock=LONE, phase=0, standing=(0,), misses=0), True)
        self.assertEqual(misses.most_misses(clock=LONE, phase=0, standing=(0,)), 12)
        self.assertEqual(misses.deed_for(clock=LONE, phase=0, standing=(0,), misses=0), ())
        self.assertEqual(tolls.toll(clock=LONE, tolls=((3,),), standing=(0,)), 3)
        told = {"clock": LONE, "tick": 0, "standing": (0,), "hands": 0, "tolls": ((3,),)}
        self.assertEqual(tolls.cheapest_course(**told), ())
        self.assertEqual(tolls.least_toll(**told), 0)
        self.assertIs(tolls.shows_cheapest_course(**told, value=()), True)
        told = {"clock": LONE, "phase": 0, "standing": (0,), "chance": (1, 2)}
        self.assertEqual(odds.least_mean(**told), (0, 1))
        self.assertEqual(odds.best_deed(**told), ())
        self.assertIs(odds.shows_best_deed(**told, value=()), True)
        self.assertEqual([backs.mirror(clock=LONE), backs.backwards(clock=LONE)], [LONE, LONE])
        told = {"clock": LONE, "tick": 0, "standing": (0,), "goal": (0,)}
        self.assertEqual([backs.led_on(**told), backs.led_back(**told)], [((),), ((),)])
        self.assertEqual(backs.both_ways(clock=LONE, tick=0), ((0,),))
        self.assertIsNone(backs.no_return(clock=LONE, plan=((),)))
        self.assertEqual(backs.longest_open(clock=LONE, before=1), (((),), None))

    def names_of_fleets_and_news(self):
        told = {"clock": LONE, "copies": (1,), "in_turn": False}
        self.assertEqual([fleets.fleet(**told), fleets.by_copies(**told)], [LONE, (((),),)])
        self.assertEqual([fleets.fleet_rounds(**told), fleets.alike(clock=LONE)], [0, ((0,),)])
        self.assertEqual(seen.news(clock=LONE, before=1, plan=((),), watch=()), ())
        told = {"clock": LONE, "before": 1, "news": ()}
        self.assertEqual([seen.fitting(**told), seen.count_fitting(**told)], [(((),), ((),)), 1])
        self.assertEqual(seen.sure(**told, tick=0), ((0, 0),))
        self.assertEqual(seen.fewest_watched(clock=LONE, before=1, plan=((),)), ())
        self.assertEqual(crews.served(clocks=(LONE,), duty=(0,)), (((),),))
        self.assertEqual(crews.served_by(clocks=(LONE,), duty=(0,)), 0)
        self.assertEqual([crews.best_duty(clocks=(LONE,)), crews.least_phases(clock=LONE)], [((0,), 0), ()])
        desk = Desk()
        self.assertIsNone(desk.read(text=TEXT))
        self.assertEqual([desk.say(line="tick"), sessions.Session(text=TEXT).say(line="tick")], ["0", "0"])
        self.assertEqual(sessions.read_session(text=SESSION), (LONE, ()))
        self.assertIsNone(sessions.first_unlike(text=SESSION))
