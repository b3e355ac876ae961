"""The interface: each name stands in its own file, with its arguments in their order."""

import importlib
import inspect
import unittest

FUNCTIONS = {
    "clocks": ("exchanges(clock)", "touching(clock, tick)", "needed(clock, wheel, edition, other)"),
    "plans": (
        "edition_at(clock, plan, wheel, tick)", "wrong_at(clock, plan, tick)", "first_wrong(clock, plan)",
        "is_right(clock, plan)", "mixed(clock, one, other, later)",
    ),
    "pushes": ("leaning(clock)", "push(clock, exchange, other, tick)", "push_row(clock, exchange, other)"),
    "stairs": ("row_at(row, tick)", "behind(one, other)", "times(row, many)", "is_below(one, other)", "pace(row)"),
    "earliest": ("earliest(clock)", "why(clock, exchange)", "shows_why(clock, exchange, value)"),
    "rings": ("ring(clock)", "shows_ring(clock, value)", "is_ring(clock, value)"),
    "middle": (
        "rest(clock, tick, standing)", "due(clock, tick, standing)", "safe(clock, tick, standing)",
        "may_wait(clock, tick, standing)",
    ),
    "lattices": (
        "plans(clock, before)", "count_plans(clock, before)", "plan_at(clock, before, number)",
        "number_of(clock, before, plan)", "latest(clock, before)", "way(clock, before)",
    ),
    "prices": (
        "price(clock, before, prices, plan)", "cheapest(clock, before, prices)",
        "shows_cheapest(clock, before, prices, value)",
    ),
    "mends": (
        "fewest_gaps(clock)", "shows_fewest_gaps(clock, value)", "fewest_entries(clock)",
        "shows_fewest_entries(clock, value)",
    ),
    "joinings": (
        "together(one, other)", "slowed(clock, many)", "quickest(clock)", "renamed(clock, order)",
        "renamed_plan(clock, plan, order)", "turned(clock, by)", "parts(clock)", "part_of(clock, wheels)",
    ),
    "clocktexts": ("write_clock(clock)", "read_clock(text)", "write_plan(clock, plan)", "read_plan(clock, text)"),
    "charts": ("chart(clock, plan, many)", "read_chart(clock, text)"),
    "courses": (
        "next_standings(clock, phase, standing, hands)", "standings(clock, hands)", "ending(clock, hands)",
        "shortest(clock, tick, standing, hands)", "shows_shortest(clock, tick, standing, hands, value)",
    ),
    "misses": (
        "sure(clock, phase, standing, misses)", "most_misses(clock, phase, standing)",
        "deed_for(clock, phase, standing, misses)",
    ),
    "backs": (
        "mirror(clock)", "backwards(clock)", "led_on(clock, tick, standing, goal)",
        "led_back(clock, tick, standing, goal)", "both_ways(clock, tick)", "no_return(clock, plan)",
        "longest_open(clock, before)",
    ),
    "fleets": (
        "fleet(clock, copies, in_turn)", "by_copies(clock, copies, in_turn)", "fleet_rounds(clock, copies, in_turn)",
        "alike(clock)",
    ),
    "seen": (
        "news(clock, before, plan, watch)", "fitting(clock, before, news)", "count_fitting(clock, before, news)",
        "sure(clock, before, news, tick)", "fewest_watched(clock, before, plan)",
    ),
    "tolls": (
        "toll(clock, tolls, standing)", "cheapest_course(clock, tick, standing, hands, tolls)",
        "least_toll(clock, tick, standing, hands, tolls)",
        "shows_cheapest_course(clock, tick, standing, hands, tolls, value)",
    ),
    "odds": (
        "least_mean(clock, phase, standing, chance)", "best_deed(clock, phase, standing, chance)",
        "shows_best_deed(clock, phase, standing, chance, value)",
    ),
    "crews": ("served(clocks, duty)", "served_by(clocks, duty)", "best_duty(clocks)", "least_phases(clock)"),
    "sessions": ("read_session(text)", "first_unlike(text)"),
}
CLASSES = {
    "benches": ("Bench", "(clock)", ("exchange(wheel)", "go()", "safe()", "rest()", "may_wait()", "is_done()"),
                ("tick", "standing", "plan", "harm")),
    "desks": ("Desk", "()", ("read(text)", "say(line)"), ()),
    "sessions": ("Session", "(text)", ("say(line)", "text()"), ("log",)),
}


class InterfaceTest(unittest.TestCase):

    def test_functions(self):
        for module, told in FUNCTIONS.items():
            home = importlib.import_module(f"livingclock.{module}")
            for line in told:
                name = line.split("(")[0]
                function = getattr(home, name)
                self.assertTrue(inspect.isfunction(function), line)
                self.assertEqual(function.__module__, home.__name__, line)
                self.assertEqual(name + str(inspect.signature(function)), line)

    def test_classes(self):
        for module, (name, arguments, methods, properties) in CLASSES.items():
            home = importlib.import_module(f"livingclock.{module}")
            made = getattr(home, name)
            self.assertEqual(made.__module__, home.__name__)
            self.assertEqual(str(inspect.signature(made)), arguments)
            for line in methods:
                method, _, rest = line.partition("(")
                told = str(inspect.signature(vars(made)[method]))
                self.assertEqual(told, "(self, " + rest if rest != ")" else "(self)")
            for told in properties:
                self.assertIsInstance(vars(made)[told], property)
