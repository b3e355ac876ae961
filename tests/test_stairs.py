"""Point 5: step rows, stairs behind each other, done many times, below each other, and their pace."""

import math
import random

from livingclock.errors import BadNumber, BadRow, BadTick, NotAlike
from livingclock.stairs import behind, is_below, pace, row_at, times
from tests.samples import JUNK, Case

FAR = 10 ** 30
WRONG_ROWS = tuple(value for value in JUNK if value not in ((0, 0), (0, 1, 2, 3))) + (
    (1, 0), (0, 3), (0, 4), (0, 2, 1), (0, 0, 0, 5), (0,) * 13, [0, 1], (0, True), (False,), (None, 1), "01", ("0",),
    ((0,), (1,)), {0: 1}, (0, None), (0, [1]),
)
TOO_GREAT = ((FAR + 1,), (-FAR - 1,), (FAR, FAR + 1), (-FAR - 1, -FAR))
STEPS = (None, True, False, "0", (), [], {}, (0,), FAR + 1, -FAR - 1)


def some_row(chance, length):
    """Return a step row, not far from 0."""
    first = chance.randint(-2 * length, 2 * length)
    return tuple(sorted(chance.randint(first, first + length) for _ in range(length)))


def some_rows(many, seed):
    """Return a list of pairs of step rows of one length."""
    chance = random.Random(seed)
    pairs = []
    for _ in range(many):
        length = chance.choice((1, 2, 3, 5, 8, 12))
        pairs.append((some_row(chance, length), some_row(chance, length)))
    return pairs


def plain_at(row, tick):
    """Return a stair's number by going whole rounds on or back."""
    rise = 0
    while tick < 0:
        tick += len(row)
        rise -= len(row)
    while tick >= len(row):
        tick -= len(row)
        rise += len(row)
    return row[tick] + rise


class ExamplesTest(Case):

    def test_examples(self):
        self.assertEqual([row_at((2, 2, 4), 4), row_at((2, 2, 4), -1)], [5, 1])
        self.assertEqual(behind((2, 2, 4), (0, 3, 3)), (2, 5, 5))
        self.assertEqual(times((1, 2, 3), 10), (10, 11, 12))
        self.assertEqual(pace((2, 2, 4)), (3, 2))
        self.assertIs(is_below((0, 3, 3), (2, 3, 4)), True)
        self.assertEqual(times((2, 2, 4), 0), (0, 1, 2))
        self.fails(BadRow, pace, (0, 4))


class RowTest(Case):

    def test_wrong_rows(self):
        for value in WRONG_ROWS + TOO_GREAT:
            self.fails(BadRow, row_at, value, 0)
            self.fails(BadRow, times, value, 1)
            self.fails(BadRow, pace, value)
            self.fails(BadRow, is_below, value, (0, 0))
            self.fails(BadRow, is_below, (0, 0), value)
            self.fails(BadRow, behind, value, (0, 0))
            self.fails(BadRow, behind, (0, 0), value)

    def test_edges(self):
        self.assertEqual(row_at((0,), 5), 5)
        self.assertEqual(row_at((0,) * 12, 11), 0)
        self.assertEqual(row_at((0,) * 12, 12), 12)
        self.assertEqual(row_at((0,) * 11 + (12,), -1), 0)
        self.assertEqual(row_at((0, 0, 3), 2), 3)
        self.assertEqual(row_at((FAR,), 0), FAR)
        self.assertEqual(row_at((-FAR, -FAR), -1), -FAR - 2)
        self.assertEqual(row_at((FAR, FAR), FAR), 2 * FAR)
        self.assertEqual(row_at((-FAR,), -FAR), -2 * FAR)

    def test_many_rows(self):
        for row, _ in some_rows(40, 1):
            for tick in range(-30, 31):
                self.assertEqual(row_at(row, tick), plain_at(row, tick))
            self.assertEqual(row_at(row, FAR), row_at(row, FAR % len(row)) + FAR - FAR % len(row))

    def test_wrong_ticks(self):
        for tick in STEPS:
            self.fails(BadTick, row_at, (0, 1), tick)
        self.fails(BadRow, row_at, None, None)


class BehindTest(Case):

    def test_other_is_done_first(self):
        self.assertEqual(behind((0, 2), (1, 1)), (2, 2))
        self.assertEqual(behind((1, 1), (0, 2)), (1, 3))

    def test_numbers_of_the_answer_may_be_greater(self):
        self.assertEqual(behind((FAR,), (FAR,)), (2 * FAR,))
        self.assertEqual(behind((FAR,), (1,)), (FAR + 1,))
        self.assertEqual(behind((-FAR, -FAR), (-FAR, 1 - FAR)), (-2 * FAR, -2 * FAR))
        half = times((1, 2, 4), FAR // 2)
        self.assertEqual(behind(half, half), times((1, 2, 4), FAR))

    def test_numbers_of_the_rows_may_not_be_greater(self):
        self.fails(BadRow, behind, (1,), (FAR + 1,))
        self.fails(BadRow, behind, (FAR + 1,), (1,))
        self.fails(BadRow, behind, (1, 2), (-FAR - 1, -FAR))
        # What behind returns may be too great to be given to it again.
        self.fails(BadRow, behind, behind((FAR,), (FAR,)), (0,))

    def test_many_rows(self):
        for one, other in some_rows(60, 2):
            row = behind(one, other)
            for tick in range(-15, 16):
                self.assertEqual(row_at(row, tick), row_at(one, row_at(other, tick)))

    def test_unlike_lengths(self):
        self.fails(NotAlike, behind, (0,), (0, 1))
        self.fails(NotAlike, behind, (0, 1), (0,))
        self.fails(BadRow, behind, (0,), (1, 0))
        self.fails(BadRow, behind, (1, 0), (0,))
        self.fails(BadRow, behind, (0, 1), (FAR + 1,))
        self.fails(BadRow, behind, (FAR + 1,), (0, 1))


class TimesTest(Case):

    def test_many_rows(self):
        for row, _ in some_rows(40, 3):
            done = tuple(range(len(row)))
            for many in range(40):
                self.assertEqual(times(row, many), done)
                done = tuple(plain_at(row, number) for number in done)

    def test_edges(self):
        self.assertEqual(times((FAR,), 0), (0,))
        self.assertEqual(times((0,) * 12, 0), tuple(range(12)))
        self.assertEqual(times((FAR,), FAR), (FAR * FAR,))
        self.assertEqual(times((-FAR, -FAR), FAR), (-FAR * FAR, -FAR * FAR))
        self.assertEqual(times((0, 0, 0), FAR), (0, 0, 0))
        half = 3 * FAR // 2
        self.assertEqual(times((2, 2, 4), FAR), (half + 1, half + 1, half + 2))

    def test_wrong_numbers(self):
        for many in (-1, FAR + 1, None, True, False, "1", (), [], {}, (1,)):
            self.fails(BadNumber, times, (0, 1), many)
        self.fails(BadRow, times, (1, 0), -1)


class IsBelowTest(Case):

    def test_edges(self):
        self.assertIs(is_below((0, 1), (0, 1)), True)
        self.assertIs(is_below((0, 1), (0, 2)), True)
        self.assertIs(is_below((0, 2), (0, 1)), False)
        self.assertIs(is_below((1, 1), (0, 2)), False)
        self.assertIs(is_below((-FAR,), (FAR,)), True)
        self.assertIs(is_below((FAR,), (-FAR,)), False)

    def test_many_rows(self):
        seen = []
        for one, other in some_rows(200, 4):
            told = all(plain_at(one, tick) <= plain_at(other, tick) for tick in range(-12, 24))
            self.assertIs(is_below(one, other), told)
            seen.append(told)
        self.assertIn(True, seen)
        self.assertIn(False, seen)

    def test_unlike_lengths(self):
        self.fails(NotAlike, is_below, (0,), (0, 1))
        self.fails(BadRow, is_below, (0,), (1, 0))
        self.fails(BadRow, is_below, None, (1, 0))


class PaceTest(Case):

    def test_edges(self):
        self.assertEqual(pace((0,)), (0, 1))
        self.assertEqual(pace((-7,)), (-7, 1))
        self.assertEqual(pace((0, 1, 2)), (0, 1))
        self.assertEqual(pace((0, 0, 0)), (0, 1))
        self.assertEqual(pace((1, 3)), (2, 1))
        self.assertEqual(pace((-1, 0)), (-1, 1))
        self.assertEqual(pace((1, 2, 4)), (3, 2))
        self.assertEqual(pace((0, 0, 0, 0, 5)), (0, 1))
        self.assertEqual(pace((-1, -1, 1, 1)), (-2, 1))
        self.assertEqual(pace((-1, -1, 1)), (-3, 2))
        self.assertEqual(pace((FAR,) * 12), (FAR - 4, 1))
        self.assertEqual(pace((-FAR, -FAR)), (-FAR, 1))

    def test_many_rows(self):
        for row, _ in some_rows(150, 5):
            number, many = pace(row)
            self.assertGreater(many, 0)
            self.assertEqual(math.gcd(number, many), 1)
            # Done so often, no stair strays from its pace by more than a round.
            done = times(row, many * 10 ** 12)[0]
            self.assertLessEqual(abs(done - number * 10 ** 12), len(row))
