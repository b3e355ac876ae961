"""Point 8: rings that show that there is no right plan."""

from livingclock.clocks import exchanges
from livingclock.earliest import earliest
from livingclock.errors import BadClock
from livingclock.rings import is_ring, ring, shows_ring
from tests.samples import (
    CHASE, JUNK, LONE, PAIR, ROW, STILL, STUCK, THREE, Case, changed, good_states, nested, plain_steps, some_clock,
)

# The three wheels chase each other, and wheel 3 and 0 do, too.
BOTH = (
    CHASE[0],
    (1, 1, 1, 1),
    tuple((phase, i, j) for phase in range(3) for i in range(4) for j in range(i + 1, 4)),
    ((0,), (1,), (2,), (1,)),
    ((0, 1, 1, 1), (0, 1, 3, 1), (1, 1, 2, 1), (2, 1, 0, 1), (3, 1, 0, 1)),
)
# Twelve wheels in a row that touch at each tick, the last two of which wait for each other.
LOOP = (
    12,
    (2,) * 12,
    tuple((phase, i, i + 1) for phase in range(12) for i in range(11)),
    tuple((wheel,) for wheel in range(12)),
    tuple((wheel, edition, wheel + 1, edition) for wheel in range(11) for edition in (1, 2)) + ((11, 1, 10, 2),),
)


def laps(clock, path, many):
    """Return the pairs of so many exchanges, from the first of a path on, which goes round and round."""
    pairs = [(path[0], clock[3][path[0][0]][0])]
    place = 1
    while len(pairs) < many:
        told = dict(plain_steps(clock, pairs[-1]))
        pairs.append((path[place % len(path)], told[path[place % len(path)]]))
        place += 1
    return tuple(pairs)


def shortest_ring(clock, most):
    """Return how many pairs the shortest ring has, by going through all chains of pushes; None beyond most pushes."""
    layers = {(u, gap): {(u, gap)} for u in exchanges(clock) for gap in clock[3][u[0]]}
    for many in range(2, most + 2):
        for start in layers:
            layers[start] = {later for pair in layers[start] for later in plain_steps(clock, pair)}
            for u, number in layers[start]:
                if u == start[0] and number > start[1] and (number - start[1]) % clock[0] == 0:
                    return many
    return None


class ExamplesTest(Case):

    def test_examples(self):
        self.assertIsNone(earliest(STUCK))
        self.assertEqual(len(ring(STUCK)), 3)
        self.assertIs(is_ring(STUCK, (((0, 1), 0), ((1, 1), 1), ((0, 1), 2))), True)
        self.assertIs(shows_ring(STUCK, None), False)
        value = (((0, 1), 0), ((1, 1), 1), ((0, 1), 2), ((1, 1), 3), ((0, 1), 4))
        self.assertIs(is_ring(STUCK, value), True)
        self.assertIs(shows_ring(STUCK, value), False)


class RingTest(Case):

    def is_of_the_form(self, clock, value):
        self.assertIsInstance(value, tuple)
        self.assertGreaterEqual(len(value), 2)
        for former, later in zip(value, value[1:]):
            self.assertIn(later, plain_steps(clock, former))
        self.assertEqual(value[0][0], value[-1][0])
        self.assertIn(value[0][1], range(clock[0]))
        self.assertGreater(value[-1][1], value[0][1])
        self.assertEqual((value[-1][1] - value[0][1]) % clock[0], 0)

    def test_none(self):
        for clock in (THREE, PAIR, LONE, STILL, ROW):
            self.assertIsNone(ring(clock))
            self.assertIs(shows_ring(clock, None), True)
            self.assertIs(shows_ring(clock, ()), False)
            self.assertIs(shows_ring(clock, False), False)

    def test_three_wheels(self):
        self.assertEqual(len(ring(CHASE)), 4)
        self.is_of_the_form(CHASE, ring(CHASE))
        self.assertEqual(len(ring(BOTH)), 3)

    def test_the_greatest_clock(self):
        value = ring(LOOP)
        self.is_of_the_form(LOOP, value)
        self.assertIs(shows_ring(LOOP, value), True)

    def test_against_all_ways(self):
        found = 0
        for seed in range(250):
            clock = some_clock(seed)
            value = ring(clock)
            able = (0, (0,) * len(clock[1])) in good_states(clock)
            self.assertIs(value is None, able)
            self.assertIs(shows_ring(clock, value), True)
            if value is None:
                self.assertIsNone(shortest_ring(clock, 5))
            else:
                self.is_of_the_form(clock, value)
                self.assertIs(is_ring(clock, value), True)
                found += 1
        self.assertGreater(found, 15)

    def test_as_few_pairs_as_can_be(self):
        lengths = []
        for seed in range(300):
            clock = some_clock(seed, most_period=6, most_wheels=4)
            value = ring(clock)
            if value is not None:
                lengths.append(len(value))
                if len(value) < 9:
                    self.assertEqual(shortest_ring(clock, len(value) - 1), len(value))
        self.assertGreater(max(lengths), 3)

    def test_long_rings(self):
        # Each lap brings the first wheel from one of its gaps to the next one only.
        touches = tuple((phase, 0, 1) for phase in range(12))
        clock = (12, (1, 1), touches, ((0, 2, 4, 6, 8, 10), (1, 3, 5, 7, 9, 11)), ((0, 1, 1, 1), (1, 1, 0, 1)))
        self.assertEqual(len(ring(clock)), 13)
        self.is_of_the_form(clock, ring(clock))
        self.assertEqual(shortest_ring(clock, 12), 13)

    def test_wrong_clocks(self):
        for value in JUNK:
            if value != ({}, {}, {}, {}, {}):
                self.fails(BadClock, ring, value, part="clock")
                self.fails(BadClock, shows_ring, value, None, part="clock")
                self.fails(BadClock, is_ring, value, None, part="clock")


class IsRingTest(Case):

    def test_any_value(self):
        for value in JUNK + (nested(100000), (nested(100000),) * 3, ((nested(100000), 0),) * 3, STUCK):
            for clock in (STUCK, THREE, LONE):
                self.assertIs(is_ring(clock, value), False)
                self.assertIs(shows_ring(clock, value), value is None and clock != STUCK)

    def test_other_values(self):
        value = (((0, 1), 0), ((1, 1), 1), ((0, 1), 2))
        for other in (
            list(value), value[:2], value[:1], value[1:], value[::-1], (value[0], list(value[1]), value[2]),
            value + value, changed(value, 0, ((0, 1), False)), changed(value, 1, ((1, 1), True)),
            changed(value, 1, ((True, 1), 1)), changed(value, 2, ((False, 1), 2)), changed(value, 0, ((0, True), 0)),
            changed(value, 2, ((0, 1), 4)), changed(value, 2, ((0, 1), 0)), changed(value, 1, ((1, 1), 3)),
            changed(value, 2, ((1, 1), 2)), changed(value, 1, ((0, 1), 1)), changed(value, 0, ((1, 1), 0)),
            changed(value, 0, (None, 0)), changed(value, 1, ((1, 1), None)), changed(value, 1, ((1, 1), 1, 1)),
            changed(value, 1, ([1, 1], 1)), changed(value, 1, ((2, 1), 1)), changed(value, 1, ((1, 2), 1)),
            changed(value, 1, None), changed(value, 2, ((0, 1), "2")),
            (((0, 1), 2), ((1, 1), 3), ((0, 1), 4)), (((0, 1), -2), ((1, 1), -1), ((0, 1), 0)),
            (((1, 1), -1), ((0, 1), 0), ((1, 1), 1)), (((0, 1), 1), ((1, 1), 3), ((0, 1), 4)), (((0, 1), 10 ** 30), ((1, 1), 10 ** 30 + 1)),
        ):
            self.assertIs(is_ring(STUCK, other), False, other)
            self.assertIs(shows_ring(STUCK, other), False, other)
        self.assertIs(is_ring(STUCK, value), True)
        self.assertIs(shows_ring(STUCK, value), True)

    def test_it_may_begin_anywhere(self):
        value = (((1, 1), 1), ((0, 1), 2), ((1, 1), 3))
        self.assertIs(is_ring(STUCK, value), True)
        self.assertIs(shows_ring(STUCK, value), True)

    def test_whole_rounds_from_one_on(self):
        # The two wheels push each other nowhere.
        self.assertEqual(plain_steps(PAIR, ((0, 1), 1)), [((1, 1), 1)])
        self.assertEqual(plain_steps(PAIR, ((1, 1), 1)), [((0, 1), 1)])
        self.assertIs(is_ring(PAIR, (((0, 1), 1), ((1, 1), 1), ((0, 1), 1))), False)
        # A ring that comes back to its first exchange, but at another phase.
        clock = (4, (1, 1), tuple((phase, 0, 1) for phase in range(4)), ((0, 2), (1, 3)), ((0, 1, 1, 1), (1, 1, 0, 1)))
        self.assertIs(is_ring(clock, (((0, 1), 0), ((1, 1), 1), ((0, 1), 2))), False)
        self.assertIs(is_ring(clock, (((0, 1), 0), ((1, 1), 1), ((0, 1), 2), ((1, 1), 3), ((0, 1), 4))), True)

    def test_the_last_exchange_is_the_first(self):
        self.assertIs(is_ring((1, (2,), (), ((0,),), ()), (((0, 1), 0), ((0, 2), 1))), False)
        clock = (2, (1, 1), ((0, 0, 1), (1, 0, 1)), ((0, 1), (0, 1)), ((0, 1, 1, 1), (1, 1, 0, 1)))
        self.assertIs(is_ring(clock, (((0, 1), 0), ((1, 1), 0))), False)

    def test_not_without_a_way(self):
        self.assertIs(is_ring(THREE, (((2, 1), 2), ((1, 1), 4), ((0, 1), 6))), False)
        self.assertIs(is_ring(THREE, (((2, 1), 2), ((2, 1), 5))), False)

    def test_at_most_400_pairs(self):
        two, three = [(0, 1), (3, 1)], [(2, 1), (1, 1), (0, 1)]
        for path, many, told in ((two, 399, True), (two, 401, False), (three, 400, True), (three, 403, False)):
            value = laps(BOTH, path, many)
            self.assertEqual(len(value), many)
            self.assertEqual(value[0][0], value[-1][0])
            self.assertIs(is_ring(BOTH, value), told)
            self.assertIs(shows_ring(BOTH, value), False)
        self.assertIs(shows_ring(BOTH, laps(BOTH, two, 3)), True)
        self.assertIs(shows_ring(BOTH, laps(BOTH, three, 4)), False)
