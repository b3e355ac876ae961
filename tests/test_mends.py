"""Points 46 and 47: the fewest gaps to add, the fewest entries to take away, and the bars that show it."""

import itertools

from livingclock.earliest import earliest
from livingclock.errors import BadClock
from livingclock.mends import fewest_entries, fewest_gaps, is_bar, shows_fewest_entries, shows_fewest_gaps
from livingclock.rings import ring
from tests.samples import (
    CHASE, JUNK, LONE, PAIR, ROW, SKIPS, STILL, STUCK, THREE, Case, changed, good_states, plain_needed, plain_touch,
    some_clock,
)

ANSWER = (((0, 1),), ((((0, 1), 0), ((1, 1), 1), ((0, 1), 2)),))
# Two editions of a wheel, of which the second needs what can only come later.
TWICE = (2, (2, 1), ((0, 0, 1), (1, 0, 1)), ((0,), (1,)), ((0, 1, 1, 1), (1, 1, 0, 2)))


def with_gaps(clock, lot):
    """Return a clock with more gaps."""
    gaps = tuple(
        tuple(sorted(set(phases) | {phase for place, phase in lot if place == wheel}))
        for wheel, phases in enumerate(clock[3])
    )
    return changed(clock, 3, gaps)


def without_entries(clock, lot):
    """Return a clock without some entries."""
    return changed(clock, 4, tuple(entry for entry in clock[4] if entry not in lot))


def all_gaps(clock):
    """Return the ascending list of the pairs (wheel with an exchange, phase that is none of its gaps)."""
    return [
        (wheel, phase) for wheel in range(len(clock[1])) if clock[1][wheel]
        for phase in range(clock[0]) if phase not in clock[3][wheel]
    ]


def plain_is_bar(clock, bar, away=()):
    """Tell whether pairs are a bar, as point 46 tells it, number by number; away are entries that don't count."""
    if bar[0][0] != bar[-1][0] or bar[-1][1] <= bar[0][1] or (bar[-1][1] - bar[0][1]) % clock[0]:
        return False
    for ((j, b), before), ((i, a), number) in zip(bar, bar[1:]):
        if i == j:
            if a != b + 1:
                return False
            start = before + 1
        else:
            book = [entry for entry in clock[4] if entry not in away]
            if plain_needed(changed(clock, 4, tuple(book)), i, a, j) < b:
                return False
            touches = [c for c in range(before - 2 * clock[0], before) if plain_touch(clock, i, j, c)]
            if not touches:
                return False
            start = touches[-1] + 1
        if any(look % clock[0] in clock[3][i] for look in range(start, number)):
            return False
    return True


def plain_first_lot(items, mended):
    """Return the first of the shortest lots with which there is a right plan, by trying all; "long" above three."""
    for many in range(len(items) + 1):
        if many > 3:
            return "long"
        for lot in itertools.combinations(items, many):
            if earliest(mended(lot)) is not None:
                return lot
    return None


def gaps_shown(clock, lot, bars):
    """Tell whether each lot of gaps that is shorter, or as short and ahead, leaves some bar a bar, by trying all."""
    items = all_gaps(clock)
    if lot is None:
        return any(plain_is_bar(with_gaps(clock, items), bar) for bar in bars)
    lots = [other for many in range(len(lot) + 1) for other in itertools.combinations(items, many)]
    ahead = lots[:lots.index(lot)]
    return all(any(plain_is_bar(with_gaps(clock, other), bar) for bar in bars) for other in ahead)


def entries_shown(clock, lot, bars):
    """Tell whether each lot of entries that is shorter, or as short and ahead, leaves some bar a bar."""
    lots = [other for many in range(len(lot) + 1) for other in itertools.combinations(clock[4], many)]
    ahead = lots[:lots.index(lot)]
    return all(any(plain_is_bar(clock, bar, other) for bar in bars) for other in ahead)


def stuck_clocks(many, **limits):
    """Return the list of those of so many clocks that have no right plan."""
    clocks = [some_clock(seed, **limits) for seed in range(many)]
    return [clock for clock in clocks if earliest(clock) is None]


class ExamplesTest(Case):

    def test_examples(self):
        self.assertEqual([fewest_gaps(STUCK)[0], fewest_entries(STUCK)[0]], [((0, 1),), ((0, 1, 1, 1),)])


class FewestGapsTest(Case):

    def test_against_all_lots(self):
        counts = {0: 0, 1: 0, 2: 0, 3: 0, None: 0}
        for clock in stuck_clocks(1500, most_period=4, most_wheels=4, most_edition=2):
            lot, bars = fewest_gaps(clock)
            told = plain_first_lot(all_gaps(clock), lambda lot, clock=clock: with_gaps(clock, lot))
            if told == "long":
                self.assertTrue(lot is None or len(lot) > 3)
            else:
                self.assertEqual(lot, told, clock)
                counts[None if lot is None else len(lot)] += 1
                self.assertTrue(gaps_shown(clock, lot, bars), clock)
            for bar in bars:
                self.assertTrue(plain_is_bar(clock, bar), (clock, bar))
            self.assertIs(shows_fewest_gaps(clock, (lot, bars)), True)
        self.assertTrue(counts[1] > 30 and counts[2] > 5 and counts[3] > 1 and counts[None] > 30, counts)

    def test_clocks_with_a_right_plan(self):
        for clock in (THREE, PAIR, LONE, ROW, SKIPS, STILL):
            self.assertEqual(fewest_gaps(clock), ((), ()))
            self.assertIs(shows_fewest_gaps(clock, ((), ())), True)
            self.assertIs(shows_fewest_gaps(clock, (None, ())), False)

    def test_edges(self):
        # A wheel without an exchange gets no gap.
        clock = (2, (1, 1, 0), ((0, 0, 1), (1, 0, 1)), ((0,), (1,), ()), ((0, 1, 1, 1), (1, 1, 0, 1)))
        self.assertEqual(fewest_gaps(clock)[0], ((0, 1),))
        # With gaps for all there is no plan, either.
        lot, bars = fewest_gaps(TWICE)
        self.assertIsNone(lot)
        self.assertTrue(any(plain_is_bar(with_gaps(TWICE, all_gaps(TWICE)), bar) for bar in bars))
        self.assertIs(shows_fewest_gaps(TWICE, (None, bars)), True)
        self.assertEqual(len(fewest_gaps(CHASE)[0]), 2)

    def test_several_parts(self):
        # Six pairs of wheels that are stuck, each by itself.
        pairs = [(2 * place, 2 * place + 1) for place in range(6)]
        clock = (
            12, (1,) * 12, tuple(sorted((phase, i, j) for phase in range(12) for i, j in pairs)),
            ((0,), (6,)) * 6, tuple(sorted(entry for i, j in pairs for entry in ((i, 1, j, 1), (j, 1, i, 1)))),
        )
        lot, bars = fewest_gaps(clock)
        self.assertEqual(lot, tuple((2 * place, 6) for place in range(6)))
        self.assertIs(shows_fewest_gaps(clock, (lot, bars)), True)
        lot, bars = fewest_entries(clock)
        self.assertEqual(lot, tuple((2 * place, 1, 2 * place + 1, 1) for place in range(6)))
        self.assertIs(shows_fewest_entries(clock, (lot, bars)), True)

    def test_great_chases(self):
        for wheels, step in ((6, 1), (6, 5), (8, 1), (12, 1)):
            pairs = list(itertools.combinations(range(wheels), 2))
            clock = (
                wheels, (1,) * wheels, tuple((phase, i, j) for phase in range(wheels) for i, j in pairs),
                tuple((place * step % wheels,) for place in range(wheels)),
                tuple((place, 1, (place + 1) % wheels, 1) for place in range(wheels)),
            )
            lot, bars = fewest_gaps(clock)
            # All must go at once, so that they want a gap that all have: the first wheel gets that of the last one.
            self.assertEqual(len(lot), wheels - 1)
            self.assertIsNotNone(earliest(with_gaps(clock, lot)))
            self.assertTrue(all(plain_is_bar(clock, bar) for bar in bars))
            self.assertIs(shows_fewest_gaps(clock, (lot, bars)), True)
            self.assertEqual(fewest_entries(clock)[0], ((0, 1, 1, 1),))


class FewestEntriesTest(Case):

    def test_against_all_lots(self):
        counts = {1: 0, 2: 0, 3: 0}
        for clock in stuck_clocks(1000, most_period=4, most_wheels=4, most_edition=2):
            lot, bars = fewest_entries(clock)
            told = plain_first_lot(clock[4], lambda lot, clock=clock: without_entries(clock, lot))
            if told == "long":
                self.assertGreater(len(lot), 3)
            else:
                self.assertEqual(lot, told, clock)
                counts[len(lot)] += 1
                self.assertTrue(entries_shown(clock, lot, bars), clock)
            for bar in bars:
                self.assertTrue(plain_is_bar(clock, bar), (clock, bar))
            self.assertIs(shows_fewest_entries(clock, (lot, bars)), True)
        self.assertTrue(counts[1] > 50 and counts[2] > 10 and counts[3] > 3, counts)

    def test_clocks_with_a_right_plan(self):
        for clock in (THREE, PAIR, LONE, ROW, SKIPS, STILL):
            self.assertEqual(fewest_entries(clock), ((), ()))
            self.assertIs(shows_fewest_entries(clock, ((), ())), True)

    def test_an_entry_may_stand_for_another(self):
        # Edition 2 of wheel 0 needs edition 1 of wheel 1 by two entries; both must go, or the one of wheel 1.
        clock = (2, (2, 1), ((0, 0, 1), (1, 0, 1)), ((0,), (1,)), ((0, 1, 1, 1), (0, 2, 1, 1), (1, 1, 0, 2)))
        self.assertEqual(fewest_entries(clock)[0], ((1, 1, 0, 2),))
        self.assertTrue(is_bar(clock, (((0, 2), 0), ((1, 1), 1), ((0, 2), 2))))
        self.assertTrue(plain_is_bar(clock, (((0, 2), 0), ((1, 1), 1), ((0, 2), 2)), ((0, 1, 1, 1),)))

    def test_all_chase_all(self):
        wheels = range(8)
        pairs = list(itertools.combinations(wheels, 2))
        clock = (
            8, (1,) * 8, tuple((phase, i, j) for phase in wheels for i, j in pairs), tuple((i,) for i in wheels),
            tuple((i, 1, j, 1) for i in wheels for j in wheels if i != j),
        )
        lot, bars = fewest_entries(clock)
        self.assertEqual(lot, tuple((i, 1, j, 1) for i, j in pairs))
        self.assertIs(shows_fewest_entries(clock, (lot, bars)), True)
        self.assertEqual(len(fewest_gaps(clock)[0]), 7)


class IsBarTest(Case):

    def test_rings_are_bars(self):
        for clock in stuck_clocks(300):
            told = ring(clock)
            self.assertTrue(is_bar(clock, told))
            self.assertTrue(plain_is_bar(clock, told))

    def test_numbers(self):
        bar = (((0, 1), 0), ((1, 1), 1), ((0, 1), 2))
        for by in (0, 2, -2, 1000, -10 ** 6, 10 ** 6 - 2):
            self.assertTrue(is_bar(STUCK, tuple((exchange, number + by) for exchange, number in bar)))
        for by in (1, 10 ** 6, -10 ** 6 - 2):
            self.assertFalse(is_bar(STUCK, tuple((exchange, number + by) for exchange, number in bar)))
        # Numbers may be lower than those that are pushed, and no gaps.
        self.assertTrue(is_bar(STUCK, (((0, 1), 4), ((1, 1), 5), ((0, 1), 6), ((1, 1), 5), ((0, 1), 6))))
        self.assertTrue(is_bar(STUCK, (((0, 1), 4), ((1, 1), 5), ((0, 1), 6), ((1, 1), 7), ((0, 1), 8))))
        self.assertTrue(is_bar(STUCK, (((1, 1), 1), ((0, 1), 2), ((1, 1), 3))))
        self.assertFalse(is_bar(STUCK, (((0, 1), 4), ((1, 1), 6), ((0, 1), 6))))
        self.assertFalse(is_bar(STUCK, (((0, 1), 4), ((1, 1), 5), ((0, 1), 7))))
        self.assertFalse(is_bar(STUCK, (((0, 1), 4), ((1, 1), 5), ((0, 1), 4))))

    def test_many_pairs(self):
        pairs = tuple((((place % 2), 1), place) for place in range(401))
        self.assertTrue(is_bar(STUCK, pairs[:399]))
        self.assertFalse(is_bar(STUCK, pairs))
        self.assertFalse(is_bar(STUCK, pairs[:1]))
        told = ring(CHASE)
        rise = told[-1][1] - told[0][1]
        longer = tuple(
            (exchange, number + rise * times) for times in range(134) for exchange, number in told[:len(told) - 1]
        )
        self.assertTrue(is_bar(CHASE, longer[:400]))
        self.assertEqual((len(told), longer[399]), (4, (told[0][0], told[0][1] + 133 * rise)))

    def test_a_later_edition_serves(self):
        # Edition 1 of wheel 1 needs edition 2 of wheel 0, so it is behind edition 1, too.
        self.assertTrue(is_bar(TWICE, (((0, 2), 0), ((1, 1), 1), ((0, 1), 2), ((0, 2), 2))))
        clock = changed(TWICE, 4, ((0, 1, 1, 1), (1, 1, 0, 1)))
        self.assertTrue(is_bar(clock, (((0, 1), 0), ((1, 1), 1), ((0, 1), 2))))
        self.assertTrue(is_bar(clock, (((0, 1), 0), ((1, 1), 1), ((0, 2), 2), ((1, 1), 2), ((0, 1), 4))) is False)

    def test_a_bar_shows_that_there_is_no_right_plan(self):
        bars = 0
        for seed in range(150):
            clock = some_clock(seed, most_period=2, most_wheels=2, most_edition=2)
            able = (0, (0,) * len(clock[1])) in good_states(clock)
            pairs = [((i, a), n) for i, last in enumerate(clock[1]) for a in range(1, last + 1) for n in range(4)]
            for many in (2, 3, 4):
                for value in itertools.islice(itertools.product(pairs, repeat=many), 2000):
                    told = is_bar(clock, value)
                    self.assertIs(told, plain_is_bar(clock, value))
                    bars += told
                    self.assertFalse(told and able)
        self.assertGreater(bars, 15)


class ShowsTest(Case):

    def test_wrong_values(self):
        lot, bars = ANSWER
        bar = bars[0]
        self.assertIs(shows_fewest_gaps(STUCK, ANSWER), True)
        wrong = JUNK + (
            (lot,), (lot, bars, ()), [lot, bars], (lot, list(bars)), (lot, ()), (lot, bar), (lot, None), ((), bars),
            ((), ()), (None, bars), (None, ()), (((1, 0),), bars), (((0, 1), (1, 0)), bars), (((0, 0),), bars),
            (((0, 2),), bars), (((2, 1),), bars), ([(0, 1)], bars), (([0, 1],), bars), (((0, True),), bars),
            (((False, 1),), bars), ((None,), bars), ("ab", bars), (((0, 1), (0, 1)), bars), (((0, "1"),), bars),
            (lot, (None,)), (lot, (bar, None)), (lot, (bar, ())), (lot, (bar, bar[:2])), (lot, (bar[:1],)),
            (lot, (bar, changed(bar, 1, ((1, 1), 2)))), (lot, (changed(bar, 1, ((1, True), 1)),)),
            (lot, (changed(bar, 1, ((1, 1), True)),)), (lot, (changed(bar, 1, ([1, 1], 1)),)),
            (lot, (changed(bar, 1, [(1, 1), 1]),)), (lot, (changed(bar, 1, None),)), (lot, (list(bar),)),
            (lot, (changed(bar, 0, ((0, 1), False)),)), (lot, "bars"), (lot, {0: bar}), (1, bars), (0, bars),
        )
        for value in wrong:
            self.assertIs(shows_fewest_gaps(STUCK, value), False, value)
        entry = ((0, 1, 1, 1),)
        self.assertIs(shows_fewest_entries(STUCK, (entry, bars)), True)
        more = (
            (((1, 1, 0, 1),), bars), (((0, 1, 1, 1), (1, 1, 0, 1)), bars), (((0, True, 1, 1),), bars), (None, bars),
            (([0, 1, 1, 1],), bars), (((0, 1, 1),), bars), (((0, 1, 1, 2),), bars), (entry[0], bars), ((), bars),
        )
        for value in more + wrong:
            self.assertIs(shows_fewest_entries(STUCK, value), False, value)

    def test_more_bars_do_no_harm(self):
        lot, bars = ANSWER
        more = (((1, 1), 1), ((0, 1), 2), ((1, 1), 3))
        self.assertIs(shows_fewest_gaps(STUCK, (lot, bars + (more,) + bars)), True)
        self.assertIs(shows_fewest_gaps(STUCK, (lot, (more,))), True)

    def test_fewer_bars(self):
        shown = hidden = 0
        for clock in stuck_clocks(900, most_period=4, most_wheels=4, most_edition=2):
            lot, bars = fewest_gaps(clock)
            if lot is not None and len(lot) < 4:
                for place in range(len(bars)):
                    fewer = bars[:place] + bars[place + 1:]
                    told = gaps_shown(clock, lot, fewer)
                    self.assertIs(shows_fewest_gaps(clock, (lot, fewer)), told)
                    shown += told
                    hidden += not told
            lot, bars = fewest_entries(clock)
            if len(lot) < 4:
                for place in range(len(bars)):
                    fewer = bars[:place] + bars[place + 1:]
                    told = entries_shown(clock, lot, fewer)
                    self.assertIs(shows_fewest_entries(clock, (lot, fewer)), told)
                    shown += told
                    hidden += not told
        self.assertGreater(hidden, 50)

    def test_other_lots(self):
        for clock in stuck_clocks(400, most_period=3, most_wheels=3, most_edition=2):
            lot, bars = fewest_gaps(clock)
            for other in itertools.islice(itertools.combinations(all_gaps(clock), 2 if lot is None else len(lot)), 50):
                self.assertIs(shows_fewest_gaps(clock, (other, bars)), other == lot)
            lot, bars = fewest_entries(clock)
            for other in itertools.islice(itertools.combinations(clock[4], len(lot)), 50):
                self.assertIs(shows_fewest_entries(clock, (other, bars)), other == lot)

    def test_wrong_clocks(self):
        for call, more in ((fewest_gaps, ()), (fewest_entries, ()), (shows_fewest_gaps, (None,)),
                           (shows_fewest_entries, (None,))):
            self.fails(BadClock, call, None, *more, part="clock")
            self.fails(BadClock, call, (2, (1, 1), (), ((0,), (2,)), ()), *more, part="gaps")
