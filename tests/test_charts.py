"""Point 52: charts of a clock's first ticks."""

import random

from livingclock.charts import chart, read_chart
from livingclock.earliest import earliest
from livingclock.errors import BadClock, BadLine, BadNumber, BadPlan, BadString
from tests.samples import (
    LONE, PAIR, ROW, SKIPS, STILL, THREE, Case, plain_standing, plain_touch, plain_unfit, some_clock,
)

EXAMPLE = (2, (1, 1), ((0, 0, 1),), ((0, 1), (1,)), ((0, 1, 1, 1),))
TEXT = "0: 1* 0 0!1\n1: 1 1*\n2: 1 1 0-1"


def plain_chart(clock, plan, many):
    """Write a chart from what plain ways tell of each tick."""
    lines = []
    for tick in range(many):
        standing = plain_standing(plan, tick)
        words = [f"{tick}:"] + [f"{edition}{'*' * (tick in ticks)}" for edition, ticks in zip(standing, plan)]
        unfit = plain_unfit(clock, standing, tick)
        for i in range(len(standing)):
            for j in range(i + 1, len(standing)):
                if plain_touch(clock, i, j, tick):
                    words.append(f"{i}{'!' if (i, j) in unfit else '-'}{j}")
        lines.append(" ".join(words))
    return "\n".join(lines)


def some_plan(clock, chance, most):
    """Return a plan with any gaps below a tick, right or not; None if there are too few."""
    plan = []
    for last, phases in zip(clock[1], clock[3]):
        able = [tick for tick in range(most) if tick % clock[0] in phases]
        if len(able) < last:
            return None
        plan.append(tuple(sorted(chance.sample(able, last))))
    return tuple(plan)


def some_charts():
    """Return a list of triples: a clock, a plan, the tick behind its last one."""
    told = []
    for seed in range(150):
        clock = some_clock(seed, most_period=5, most_wheels=4, most_edition=3)
        plan = some_plan(clock, random.Random(seed), 15)
        if plan is not None:
            told.append((clock, plan, max([ticks[-1] + 1 for ticks in plan if ticks], default=1)))
    return told


class ChartTest(Case):

    def test_examples(self):
        self.assertEqual(chart(EXAMPLE, ((0,), (1,)), 3), TEXT)

    def test_by_hand(self):
        self.assertEqual(chart(LONE, ((),), 2), "0: 0\n1: 0")
        self.assertEqual(chart(THREE, ((6,), (4,), (2,)), 1), "0: 0 0 0 0-1")
        self.assertTrue(chart(THREE, ((6,), (4,), (2,)), 7).endswith("\n6: 1* 1 1 0-1"))
        lines = chart(STILL, ((), (), ()), 12).split("\n")
        self.assertEqual((lines[5], lines[11], lines[0]), ("5: 0 0 0 0-2", "11: 0 0 0 1-2", "0: 0 0 0"))
        self.assertEqual(chart(ROW, earliest(ROW), 11).split("\n")[10], "10: 0 0 0 0 0 0 0 0 0 0 0 0 10-11")

    def test_several_pairs_in_order(self):
        clock = (1, (1, 1, 1), ((0, 0, 1), (0, 0, 2), (0, 1, 2)), ((0,),) * 3, ((1, 1, 2, 1),))
        self.assertEqual(
            chart(clock, ((0,), (0,), (1,)), 2), "0: 1* 1* 0 0-1 0-2 1!2\n1: 1 1 1* 0-1 0-2 1-2",
        )

    def test_many_charts(self):
        wrong = 0
        for clock, plan, end in some_charts():
            for many in (1, 2, end, end + 3):
                self.assertEqual(chart(clock, plan, many), plain_chart(clock, plan, many))
            wrong += "!" in chart(clock, plan, end)
        self.assertGreater(wrong, 10)

    def test_most_lines(self):
        self.assertEqual(chart(PAIR, ((0,), (1,)), 200), plain_chart(PAIR, ((0,), (1,)), 200))
        self.assertEqual(chart(LONE, ((),), 200).count("\n"), 199)

    def test_wrong_arguments(self):
        for many in (0, -1, 201, 10 ** 30, None, True, "3", (3,), [], {}):
            self.fails(BadNumber, chart, EXAMPLE, ((0,), (1,)), many)
        self.fails(BadPlan, chart, EXAMPLE, ((0,), (0,)), 0, wheel=1)
        self.fails(BadPlan, chart, EXAMPLE, None, 0, wheel=None)
        self.fails(BadClock, chart, (13,), None, None, part="clock")


class ReadChartTest(Case):

    def test_read_again(self):
        charts = some_charts()
        self.assertGreater(len(charts), 100)
        for clock, plan, end in charts:
            for many in (end, end + 1, 200):
                self.assertEqual(read_chart(clock, chart(clock, plan, many)), plan)

    def test_lacking_exchanges(self):
        for clock, plan, end in some_charts():
            for many in range(1, end):
                self.fails(BadLine, read_chart, clock, chart(clock, plan, many), line=many + 1, word=1)
        self.fails(BadLine, read_chart, EXAMPLE, "0: 1* 0 0!1", line=2, word=1)

    def test_late_plans(self):
        text = chart(EXAMPLE, ((0,), (201,)), 200)
        self.fails(BadLine, read_chart, EXAMPLE, text, line=201, word=1)
        self.assertEqual(read_chart(EXAMPLE, chart(EXAMPLE, ((0,), (199,)), 200)), ((0,), (199,)))

    def test_more_than_200_lines(self):
        text = chart(EXAMPLE, ((0,), (1,)), 200)
        self.fails(BadLine, read_chart, EXAMPLE, text + "\n200: 1 1 0-1", line=201, word=1)
        self.fails(BadLine, read_chart, EXAMPLE, text + "\n200: 1 1 0-1\n201: 1 1", line=201, word=1)
        self.fails(BadLine, read_chart, EXAMPLE, text + "\n", line=201, word=1)
        lacking = chart(EXAMPLE, ((0,), (201,)), 200)
        self.fails(BadLine, read_chart, EXAMPLE, lacking + "\n200: 1 0 0!1\n201: 1 1*", line=201, word=1)
        # A wrong word ahead of them comes first.
        self.fails(BadLine, read_chart, EXAMPLE, "0:" + "\n" * 300, line=1, word=2)

    def test_the_first_other_word(self):
        for clock, plan, end in some_charts()[:60]:
            lines = chart(clock, plan, end + 2).split("\n")
            for place, line in enumerate(lines):
                words = line.split(" ")
                for at, word in enumerate(words):
                    for other in (word + "x", "", word + "**", "7", f" {word}"):
                        told = " ".join(words[:at] + [other] + words[at + 1:])
                        text = "\n".join(lines[:place] + [told] + lines[place + 1:])
                        self.fails(BadLine, read_chart, clock, text, line=place + 1, word=at + 1)
                    # This one and all behind it are lacking.
                    text = "\n".join(lines[:place] + [" ".join(words[:at])] + lines[place + 1:])
                    self.fails(BadLine, read_chart, clock, text, line=place + 1, word=at + 1)
                text = "\n".join(lines[:place] + [line + " 0-1"] + lines[place + 1:])
                self.fails(BadLine, read_chart, clock, text, line=place + 1, word=len(words) + 1)

    def test_stars_that_cannot_stand(self):
        wrong = (
            # No gap.
            ("0: 1* 1* 0-1", 1, 3), ("0: 1* 0* 0!1", 1, 3), ("0: 1* 0 0!1\n1: 1 1*\n2: 1 2* 0-1", 3, 3),
            # More than the last edition.
            ("0: 1* 0 0!1\n1: 2* 1*", 2, 2), ("0: 1* 0 0!1\n1: 1* 1*", 2, 2),
            ("0: 1* 0 0!1\n1: 1 1*\n2: 1 1 0-1\n3: 1 2*", 4, 3),
        )
        for text, line, word in wrong:
            self.fails(BadLine, read_chart, EXAMPLE, text, line=line, word=word)

    def test_what_follows_from_the_stars(self):
        wrong = (
            ("0: 0* 0 0!1", 1, 2), ("0: 2* 0 0!1", 1, 2), ("0: 1 0 0!1", 1, 2), ("0: 1* 0 0-1", 1, 4),
            ("0: 0 0 0!1", 1, 4), ("0: 1* 0 0!1\n1: 0 1*", 2, 2), ("0: 1* 0 0!1\n1: 1 1", 2, 3),
            ("0: 1* 0 0!1\n1: 1 1* 0-1", 2, 4), ("0: 1* 0 0!1\n1: 1 1*\n2: 1 1", 3, 4),
            ("0: 1* 0 0!1\n1: 1 1*\n2: 1 1 0!1", 3, 4), ("0: 1* 0 0!1\n2: 1 1*", 2, 1), ("1: 1* 0 0!1", 1, 1),
            ("00: 1* 0 0!1", 1, 1), ("0 1* 0 0!1", 1, 1), ("0:1* 0 0!1", 1, 1), ("0:* 1* 0 0!1", 1, 1),
        )
        for text, line, word in wrong:
            self.fails(BadLine, read_chart, EXAMPLE, text, line=line, word=word)

    def test_spaces_and_void_lines_count(self):
        wrong = (
            ("", 1, 1), ("\n" + TEXT, 1, 1), (TEXT + "\n", 4, 1), (" " + TEXT, 1, 1), (TEXT + " ", 3, 5),
            (TEXT.replace("\n", "\n\n", 1), 2, 1), (TEXT.replace("* 0", "*  0", 1), 1, 3),
            (TEXT.replace(" ", "\t", 1), 1, 1), (TEXT.replace("\n", "\r\n", 1), 1, 4),
        )
        for text, line, word in wrong:
            self.fails(BadLine, read_chart, EXAMPLE, text, line=line, word=word)

    def test_stars_of_all_gaps(self):
        # With stars wherever they can stand a wheel is exchanged at each of its first gaps.
        text = chart(SKIPS, ((1, 3, 5, 7), (0, 1, 2)), 8)
        self.assertEqual(read_chart(SKIPS, text), ((1, 3, 5, 7), (0, 1, 2)))
        self.assertEqual(text.count("*"), 7)

    def test_wrong_strings(self):
        for text in (None, True, 0, (), (TEXT,), TEXT.split("\n"), {}):
            self.fails(BadString, read_chart, EXAMPLE, text)
        self.fails(BadClock, read_chart, None, None, part="clock")
