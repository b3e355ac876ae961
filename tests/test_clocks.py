"""Point 2: what a clock is, its exchanges, needs and touches."""

from livingclock.clocks import exchanges, needed, touching
from livingclock.errors import BadClock, BadEdition, BadTick, BadWheel
from tests.samples import JUNK, LONE, ROW, SKIPS, STILL, THREE, Case, changed, nested, plain_needed, some_clock

PARTS = ("period", "editions", "touches", "gaps", "book")


class ExamplesTest(Case):

    def test_examples(self):
        self.assertEqual(exchanges(THREE), ((0, 1), (1, 1), (2, 1)))
        self.assertEqual(needed(THREE, 0, 1, 1), 1)
        self.assertEqual(needed(THREE, 1, 0, 2), 0)
        self.assertEqual(touching(THREE, 10 ** 30), ((1, 2),))
        self.fails(BadClock, exchanges, (3, (1,), (), ((),), ()), part="gaps")


class ClockTest(Case):

    def bad(self, clock, part):
        self.fails(BadClock, exchanges, clock, part=part)

    def bad_part(self, clock, part, *values):
        for value in values:
            self.bad(changed(clock, PARTS.index(part), value), part)

    def test_no_tuple_of_five(self):
        for value in JUNK + (THREE[:4], THREE + ((),), list(THREE), (), nested(100000)):
            if value != ({}, {}, {}, {}, {}):
                self.bad(value, "clock")

    def test_the_first_wrong_part_is_named(self):
        good = list(THREE)
        for place, part in enumerate(PARTS):
            self.bad(tuple(good[:place]) + (None,) * (5 - place), part)

    def test_period(self):
        self.bad_part(THREE, "period", 0, -3, 13, 10 ** 40, True, False, None, "3", (3,), [3], {}, nested(100000))
        self.assertEqual(exchanges((1, (1,), (), ((0,),), ())), ((0, 1),))
        self.assertEqual(exchanges((12, (1,), (), ((11,),), ())), ((0, 1),))
        self.bad((True, (0,), (), ((),), ()), "period")

    def test_editions(self):
        self.bad_part(
            THREE, "editions", (), (5, 1, 1), (1, 1, -1), (True, 1, 1), (1, False, 1), [1, 1, 1], None, "111", 3,
            (1, 1, None), (1, "1", 1), ((1,), 1, 1), (0,) * 13, (4,) * 6 + (1,), {}, (nested(100000),),
        )
        self.assertEqual(exchanges((1, (0,) * 12, (), ((),) * 12, ())), ())

    def test_at_most_24_exchanges(self):
        self.assertEqual(len(exchanges((1, (4,) * 6, (), ((0,),) * 6, ()))), 24)
        self.assertEqual(len(exchanges((1, (2,) * 12, (), ((0,),) * 12, ()))), 24)
        self.bad((1, (3,) + (2,) * 11, (), ((0,),) * 12, ()), "editions")

    def test_touches(self):
        self.bad_part(
            THREE, "touches", None, [(0, 0, 1)], ((3, 0, 1),), ((-1, 0, 1),), ((0, 1, 0),), ((0, 1, 1),),
            ((0, 0, 3),), ((0, -1, 1),), ((0, 0, 1), (0, 0, 1)), ((1, 0, 1), (0, 0, 1)), ((0, 0, 2), (0, 0, 1)),
            ((0, 0, 1, 2),), ((0, 0),), ([0, 0, 1],), ((False, 0, 1),), ((0, False, 1),), ((0, 0, True),),
            ((0, 0, None),), (None,), ("001",), ((0, 1, 2), (0, 0, 1)), ((0, 0, 1), None), {}, "",
        )
        self.bad((1, (0,), ((0, 0, 0),), ((),), ()), "touches")

    def test_gaps(self):
        self.bad_part(
            THREE, "gaps", None, (), ((0,), (1,)), ((0,), (1,), (2,), ()), ((0,), (), (2,)), ((0,), (1, 1), (2,)),
            ((1, 0), (1,), (2,)), ((0,), (1,), (3,)), ((-1,), (1,), (2,)), ((0,), [1], (2,)), ((0,), 1, (2,)),
            ((False,), (1,), (2,)), ((0,), (True,), (2,)), ((0,), (None,), (2,)), [(0,), (1,), (2,)], "012",
            ((0,), "1", (2,)), ((0,), (1,), ((2,),)), {}, ((0,), (1,), ("2",)),
        )

    def test_gaps_of_wheels_without_exchange(self):
        self.assertEqual(exchanges(LONE), ())
        self.assertEqual(exchanges(STILL), ())
        self.assertEqual(exchanges((2, (0, 1), (), ((0, 1), (1,)), ())), ((1, 1),))
        self.bad((2, (0, 1), (), ((2,), (1,)), ()), "gaps")
        self.bad((2, (0, 1), (), (None, (1,)), ()), "gaps")

    def test_book(self):
        self.bad_part(
            THREE, "book", None, [(0, 1, 1, 1)], ((0, 1, 0, 1),), ((0, 2, 1, 1),), ((0, 0, 1, 1),), ((0, 1, 1, 2),),
            ((0, 1, 1, 0),), ((3, 1, 1, 1),), ((0, 1, 3, 1),), ((-1, 1, 1, 1),), ((0, 1, -1, 1),),
            ((1, 1, 2, 1), (0, 1, 1, 1)), ((0, 1, 1, 1), (0, 1, 1, 1)), ((0, 1, 1),), ((0, 1, 1, 1, 1),),
            ([0, 1, 1, 1],), ((0, 1, True, 1),), ((0, True, 1, 1),), ((0, 1, 1, True),), ((False, 1, 1, 1),),
            ((0, 1, 1, None),), (None,), ("0111",), ((0, 1, 1, 1), None), {}, "",
        )

    def test_book_entries_alike_in_three_parts(self):
        self.bad((1, (1, 4), (), ((0,), (0,)), ((0, 1, 1, 1), (0, 1, 1, 2))), "book")
        self.bad((1, (1, 4), (), ((0,), (0,)), ((0, 1, 1, 2), (0, 1, 1, 1))), "book")
        self.assertEqual(len(exchanges((1, (2, 4), (), ((0,), (0,)), ((0, 1, 1, 2), (0, 2, 1, 1))))), 6)

    def test_book_of_a_wheel_without_exchange(self):
        self.bad((1, (1, 0), (), ((0,), ()), ((0, 1, 1, 1),)), "book")
        self.bad((1, (1, 0), (), ((0,), ()), ((1, 1, 0, 1),)), "book")


class ExchangesTest(Case):

    def test_ascending(self):
        self.assertEqual(exchanges(SKIPS), ((0, 1), (0, 2), (0, 3), (0, 4), (1, 1), (1, 2), (1, 3)))
        self.assertEqual(len(exchanges(ROW)), 24)
        self.assertEqual(exchanges(ROW), tuple(sorted(exchanges(ROW))))


class NeededTest(Case):

    def test_later_editions_take_over(self):
        self.assertEqual([needed(SKIPS, 0, edition, 1) for edition in range(5)], [0, 2, 2, 2, 3])
        self.assertEqual([needed(SKIPS, 1, edition, 0) for edition in range(4)], [0, 0, 1, 1])

    def test_without_touch(self):
        clock = (1, (1, 1), (), ((0,), (0,)), ((0, 1, 1, 1),))
        self.assertEqual(needed(clock, 0, 1, 1), 1)

    def test_many_clocks(self):
        for seed in range(60):
            clock = some_clock(seed, most_edition=4)
            wheels = len(clock[1])
            for i in range(wheels):
                for edition in range(clock[1][i] + 1):
                    for j in range(wheels):
                        if i != j:
                            self.assertEqual(needed(clock, i, edition, j), plain_needed(clock, i, edition, j))

    def test_wrong_wheels_and_editions(self):
        for wheel in (-1, 3, True, None, "0", (0,), 10 ** 40):
            self.fails(BadWheel, needed, THREE, wheel, 1, 1)
            self.fails(BadWheel, needed, THREE, 0, 1, wheel)
        for edition in (-1, 2, True, False, None, "1", (1,), [], {}):
            self.fails(BadEdition, needed, THREE, 0, edition, 1)
        self.fails(BadWheel, needed, THREE, 0, 1, 0)
        self.fails(BadWheel, needed, THREE, False, 1, 1)

    def test_which_error_comes_first(self):
        self.fails(BadClock, needed, None, 9, 9, 9, part="clock")
        self.fails(BadWheel, needed, THREE, 9, 9, 9)
        self.fails(BadEdition, needed, THREE, 0, 9, 9)
        self.fails(BadEdition, needed, THREE, 0, 9, 0)


class TouchingTest(Case):

    def test_each_phase(self):
        clock = (2, (0, 0, 0), ((0, 0, 1), (0, 0, 2), (0, 1, 2), (1, 0, 2)), ((), (), ()), ())
        self.assertEqual(touching(clock, 0), ((0, 1), (0, 2), (1, 2)))
        self.assertEqual(touching(clock, 7), ((0, 2),))
        self.assertEqual(touching(LONE, 0), ())
        self.assertEqual([touching(STILL, tick) for tick in (5, 11, 17, 6)], [((0, 2),), ((1, 2),), ((0, 2),), ()])

    def test_far_ticks(self):
        self.assertEqual(touching(THREE, 10 ** 30 - 1), ((0, 1),))
        self.assertEqual(touching(THREE, 10 ** 30), ((1, 2),))

    def test_wrong_ticks(self):
        for tick in (-1, 10 ** 30 + 1, True, False, None, "0", (), [], {}, (0,)):
            self.fails(BadTick, touching, THREE, tick)
        self.fails(BadClock, touching, (0, 0, 0, 0, 0), None, part="period")
