"""Points 58 and 59: fleets of copies, and wheels that are alike."""

import itertools
import math
import random

from livingclock.clocks import check_clock
from livingclock.earliest import earliest
from livingclock.errors import BadChoice, BadClock, BadNumber, TooMany
from livingclock.fleets import alike, by_copies, fleet, fleet_rounds
from livingclock.joinings import renamed
from tests.samples import (
    CHASE, JUNK, LONE, PAIR, ROW, SKIPS, STILL, STUCK, THREE, Case, changed, plain_needed, plain_touch, some_clock,
)

EXAMPLE = (2, (1, 1), ((0, 0, 1),), ((0, 1), (1,)), ((0, 1, 1, 1),))
SAMPLES = (THREE, STUCK, PAIR, LONE, CHASE, SKIPS, STILL, EXAMPLE)
WRONG_COPIES = JUNK + ((1, 1), (1, 1, 0), (1, 1, 7), (1, 1, True), (1, 1, "1"), [1, 1, 1], (1, 1, 1, 1), (1, 1, None))
WRONG_TURNS = (None, 0, 1, "True", (), (True,), [], {}, -1, 10 ** 30)


def some_fleets(many):
    """Return a list of triples: a clock, copies, whether in turn, of fleets that can be."""
    told = []
    for seed in range(many):
        chance = random.Random(seed)
        clock = some_clock(seed, 4, 3, 3)
        copies = tuple(chance.choice((1, 1, 2, 2, 3, 4)) for _ in clock[1])
        in_turn = chance.choice((True, False))
        period = clock[0] * (math.lcm(*copies) if in_turn else 1)
        exchanged = sum(last * many for last, many in zip(clock[1], copies))
        if period <= 12 and sum(copies) <= 12 and exchanged <= 24:
            told.append((clock, copies, in_turn))
    return told


class ExamplesTest(Case):

    def test_examples(self):
        self.assertEqual(alike((1, (1, 1), ((0, 0, 1),), ((0,), (0,)), ())), ((0, 1),))
        self.assertEqual(fleet_rounds(EXAMPLE, (2, 1), True), 1)


class FleetTest(Case):

    def test_by_hand(self):
        self.assertEqual(
            fleet(EXAMPLE, (2, 1), False),
            (2, (1, 1, 1), ((0, 0, 2), (0, 1, 2)), ((0, 1), (0, 1), (1,)), ((0, 1, 2, 1), (1, 1, 2, 1))),
        )
        self.assertEqual(
            fleet(EXAMPLE, (2, 1), True),
            (4, (1, 1, 1), ((0, 0, 2), (2, 1, 2)), ((0, 1, 2, 3), (0, 1, 2, 3), (1, 3)),
             ((0, 1, 2, 1), (1, 1, 2, 1))),
        )
        # Of two and three copies each pair meets once in six rounds.
        self.assertEqual(
            fleet((1, (1, 1), ((0, 0, 1),), ((0,), (0,)), ()), (2, 3), True)[2],
            ((0, 0, 2), (1, 1, 3), (2, 0, 4), (3, 1, 2), (4, 0, 3), (5, 1, 4)),
        )
        # A wheel that never touches makes rounds, too.
        self.assertEqual(fleet((2, (0,), (), ((1,),), ()), (3,), True), (6, (0, 0, 0), (), ((1, 3, 5),) * 3, ()))
        self.assertEqual(fleet((2, (0,), (), ((1,),), ()), (3,), False), (2, (0, 0, 0), (), ((1,),) * 3, ()))

    def test_one_copy_of_each(self):
        for clock in SAMPLES + (ROW,):
            for in_turn in (True, False):
                self.assertEqual(fleet(clock, (1,) * len(clock[1]), in_turn), clock)

    def test_what_copies_do(self):
        for clock, copies, in_turn in some_fleets(200):
            told = fleet(clock, copies, in_turn)
            check_clock(told)
            places = [(wheel, copy) for wheel, many in enumerate(copies) for copy in range(many)]
            rounds = math.lcm(*copies) if in_turn else 1
            self.assertEqual(told[0], clock[0] * rounds)
            self.assertEqual(len(told[1]), len(places))
            for number, (wheel, _) in enumerate(places):
                self.assertEqual(told[1][number], clock[1][wheel])
                phases = [phase for phase in range(told[0]) if phase % clock[0] in clock[3][wheel]]
                self.assertEqual(told[3][number], tuple(phases))
            for (one, (i, x)), (other, (j, y)) in itertools.permutations(list(enumerate(places)), 2):
                for phase in range(told[0]):
                    touch = i != j and plain_touch(clock, i, j, phase)
                    if in_turn:
                        turn = phase // clock[0]
                        touch = touch and (turn % copies[i], turn % copies[j]) == (x, y)
                    self.assertIs(plain_touch(told, one, other, phase), touch)
                for edition in range(1, clock[1][i] + 1):
                    least = plain_needed(clock, i, edition, j) if i != j else 0
                    self.assertEqual(plain_needed(told, one, edition, other), least)
            entries = sum(copies[i] * copies[j] for i, _, j, _ in clock[4])
            self.assertEqual(len(told[4]), entries)

    def test_plans(self):
        counts = {"none": 0, "earlier": 0, "alike": 0}
        for clock, copies, in_turn in some_fleets(1500):
            plan = earliest(clock)
            told = by_copies(clock, copies, in_turn)
            if told is None:
                counts["none"] += 1
                self.assertIsNone(plan)
                self.assertIsNone(fleet_rounds(clock, copies, in_turn))
                continue
            whole = earliest(fleet(clock, copies, in_turn))
            self.assertEqual([ticks for copies_ticks in told for ticks in copies_ticks], list(whole))
            self.assertEqual([len(copies_ticks) for copies_ticks in told], list(copies))
            last = max([tick for ticks in whole for tick in ticks], default=-1)
            self.assertEqual(fleet_rounds(clock, copies, in_turn), -(-(last + 1) // clock[0]))
            for wheel, rows in enumerate(told):
                for ticks in rows:
                    if plan is not None and not in_turn:
                        self.assertEqual(ticks, plan[wheel])
                        counts["alike"] += 1
                    elif plan is not None:
                        self.assertTrue(all(tick <= most for tick, most in zip(ticks, plan[wheel])))
                        counts["earlier"] += ticks != plan[wheel]
            self.assertTrue(in_turn or plan is not None)
        self.assertGreater(min(counts.values()), 15, counts)

    def test_rounds(self):
        self.assertEqual(fleet_rounds(LONE, (6,), True), 0)
        self.assertEqual(fleet_rounds(STILL, (1, 1, 1), False), 0)
        self.assertIsNone(fleet_rounds(STUCK, (2, 3), False))
        self.assertIsNone(by_copies(STUCK, (2, 3), False))
        self.assertEqual(by_copies(LONE, (2,), True), (((), ()),))
        self.assertEqual(by_copies(THREE, (1, 2, 1), False), (((6,),), ((4,), (4,)), ((2,),)))
        self.assertEqual([fleet_rounds(THREE, (1, 2, 1), False), fleet_rounds(THREE, (1, 1, 1), True)], [3, 3])
        late = (3, (1,), (), ((2,),), ())
        self.assertEqual([fleet_rounds(late, (4,), True), fleet_rounds(late, (1,), False)], [1, 1])
        self.assertEqual(fleet_rounds((3, (2,), (), ((0,),), ()), (1,), False), 2)

    def test_a_stuck_clock_may_go_in_turn(self):
        chase = (1, (1, 1), ((0, 0, 1),), ((0,), (0,)), ((0, 1, 1, 1), (1, 1, 0, 1)))
        self.assertIsNotNone(by_copies(chase, (2, 2), True))
        self.assertEqual(by_copies(STUCK, (1, 1), True), None)

    def test_too_many(self):
        for call in (fleet, by_copies, fleet_rounds):
            self.fails(TooMany, call, THREE, (5, 1, 1), True, most=12)
            self.fails(TooMany, call, THREE, (5, 6, 2), True, most=12)
            self.fails(TooMany, call, THREE, (5, 6, 2), False, most=12)
            self.fails(TooMany, call, (1, (4, 4), (), ((0,), (0,)), ()), (6, 1), False, most=24)
            self.fails(TooMany, call, (1, (4, 4), (), ((0,), (0,)), ()), (6, 1), True, most=24)
            self.fails(TooMany, call, (1, (4, 4, 4), (), ((0,),) * 3, ()), (6, 6, 1), False, most=12)
            # All copies make the rounds: six and five have thirty.
            self.fails(TooMany, call, (1, (0, 0), (), ((), ()), ()), (6, 5), True, most=12)
        self.assertEqual(fleet((1, (4,), (), ((0,),), ()), (6,), True)[1], (4,) * 6)
        self.assertEqual(fleet((3, (1,), (), ((0,),), ()), (4,), True)[0], 12)
        self.assertEqual(len(fleet((1, (1, 0), (), ((0,), ()), ()), (6, 6), True)[1]), 12)
        self.assertEqual(fleet((12, (1, 1), (), ((0,), (5,)), ()), (6, 5), False)[0], 12)
        self.fails(TooMany, fleet, (1, (1, 0, 0), (), ((0,), (), ()), ()), (6, 6, 1), True, most=12)

    def test_wrong_arguments(self):
        for call in (fleet, by_copies, fleet_rounds):
            for copies in WRONG_COPIES:
                self.fails(BadNumber, call, THREE, copies, None)
            for in_turn in WRONG_TURNS:
                self.fails(BadChoice, call, THREE, (1, 2, 1), in_turn)
                self.fails(BadChoice, call, THREE, (6, 6, 6), in_turn)
            self.fails(BadClock, call, None, None, None, part="clock")
            self.fails(BadClock, call, changed(THREE, 0, 13), None, None, part="period")


class AlikeTest(Case):

    def plain_alike(self, clock, one, other):
        """Tell whether wheels are alike by what the clock tells of each of them."""
        order = list(range(len(clock[1])))
        order[one], order[other] = other, one
        touches = {(phase, frozenset((order[i], order[j]))) for phase, i, j in clock[2]}
        book = {(order[i], a, order[j], b) for i, a, j, b in clock[4]}
        return (
            clock[1][one] == clock[1][other] and clock[3][one] == clock[3][other] and book == set(clock[4])
            and touches == {(phase, frozenset((i, j))) for phase, i, j in clock[2]}
        )

    def test_against_all_pairs(self):
        fleets = [fleet(*told) for told in some_fleets(120)]
        sizes = {}
        for clock in list(SAMPLES) + [ROW] + fleets + [some_clock(seed, 1, 5, 1) for seed in range(200)]:
            groups = alike(clock)
            self.assertEqual(sorted(wheel for group in groups for wheel in group), list(range(len(clock[1]))))
            self.assertEqual(groups, tuple(sorted(groups)))
            for group in groups:
                self.assertEqual(group, tuple(sorted(group)))
                sizes[len(group)] = sizes.get(len(group), 0) + 1
            for one, other in itertools.combinations(range(len(clock[1])), 2):
                together = any(one in group and other in group for group in groups)
                self.assertIs(self.plain_alike(clock, one, other), together, (clock, one, other))
            plan = earliest(clock)
            for group in groups:
                self.assertLessEqual(len({plan[wheel] for wheel in group} if plan else ()), 1)
        self.assertGreater(min(sizes[1], sizes[2], sizes[3]), 30, sizes)

    def test_edges(self):
        self.assertEqual(alike(LONE), ((0,),))
        self.assertEqual(alike(THREE), ((0,), (1,), (2,)))
        self.assertEqual(alike((1, (0,) * 12, (), ((),) * 12, ())), (tuple(range(12)),))
        # The gaps of a wheel without exchanges tell it from others, too.
        self.assertEqual(alike(STILL), ((0,), (1,), (2,)))
        self.assertEqual(alike((2, (0, 0, 0), ((0, 0, 2),), ((), (), ()), ())), ((0, 2), (1,)))
        self.assertEqual(alike(PAIR), ((0,), (1,)))
        self.assertEqual(alike(changed(PAIR, 3, ((1,), (1,)))), ((0, 1),))
        # Two pairs that are alike as pairs, but not wheel by wheel.
        two = (1, (1,) * 4, ((0, 0, 1), (0, 2, 3)), ((0,),) * 4, ())
        self.assertEqual(alike(two), ((0, 1), (2, 3)))
        self.assertEqual(alike(renamed(two, (0, 2, 1, 3))), ((0, 2), (1, 3)))

    def test_wrong_clocks(self):
        for value in JUNK:
            if value != ({}, {}, {}, {}, {}):
                self.fails(BadClock, alike, value, part="clock")
        self.fails(BadClock, alike, (1, (1,), (), ((),), ()), part="gaps")
