"""Point 10: the clock at work."""

import random

from livingclock.benches import Bench
from livingclock.earliest import earliest
from livingclock.errors import BadClock, BadStep, BadWheel
from livingclock.middle import may_wait, rest, safe
from tests.samples import (
    CHASE, JUNK, LONE, PAIR, ROW, SKIPS, STILL, STUCK, THREE, Case, deeds, earliest_ways, good_states, plain_unfit,
    some_clock,
)

# Two wheels of two editions that may be exchanged at each tick.
FREE = (1, (2, 2), ((0, 0, 1),), ((0,), (0,)), ((0, 1, 1, 1), (1, 2, 0, 1)))


class ExamplesTest(Case):

    def test_examples(self):
        bench = Bench(THREE)
        self.assertEqual([bench.go(), bench.go(), bench.safe(), bench.exchange(2), bench.go()], [(), (), (2,), None, ()])
        self.assertEqual([bench.tick, bench.standing, bench.plan, bench.harm], [3, (0, 0, 1), ((), (), (2,)), ()])
        self.assertEqual(bench.rest(), ((6,), (4,), ()))
        self.fails(BadStep, Bench(THREE).exchange, 1)


class BeginningTest(Case):

    def test_at_tick_0(self):
        for clock in (THREE, STUCK, PAIR, LONE, CHASE, ROW, SKIPS, STILL):
            bench = Bench(clock)
            none = (0,) * len(clock[1])
            self.assertEqual([bench.tick, bench.standing, bench.harm], [0, none, ()])
            self.assertEqual(bench.plan, ((),) * len(clock[1]))
            self.assertEqual(bench.rest(), earliest(clock))
            self.assertEqual(bench.safe(), safe(clock, 0, none))
            self.assertIs(bench.may_wait(), may_wait(clock, 0, none))
            self.assertIs(bench.is_done(), clock[1] == none)

    def test_wrong_clocks(self):
        for value in JUNK:
            if value != ({}, {}, {}, {}, {}):
                self.fails(BadClock, Bench, value, part="clock")
        self.fails(BadClock, Bench, (3, (1,), (), ((),), ()), part="gaps")

    def test_properties_are_read_only(self):
        bench = Bench(THREE)
        for name in ("tick", "standing", "plan", "harm"):
            with self.assertRaises(AttributeError):
                setattr(bench, name, 5)

    def test_benches_are_apart(self):
        one, other = Bench(FREE), Bench(FREE)
        one.exchange(1)
        one.go()
        self.assertEqual([other.tick, other.standing, other.plan, other.harm], [0, (0, 0), ((), ()), ()])


class ExchangeTest(Case):

    def test_next_editions(self):
        bench = Bench(FREE)
        bench.exchange(1)
        bench.exchange(0)
        self.assertEqual([bench.standing, bench.plan, bench.tick], [(1, 1), ((0,), (0,)), 0])
        bench.go()
        bench.exchange(1)
        self.assertEqual([bench.standing, bench.plan, bench.tick], [(1, 2), ((0,), (0, 1)), 1])
        bench.go()
        bench.go()
        bench.exchange(0)
        self.assertEqual([bench.standing, bench.plan, bench.is_done()], [(2, 2), ((0, 3), (0, 1)), True])

    def test_wrong_steps(self):
        bench = Bench(THREE)
        self.fails(BadStep, bench.exchange, 1)
        bench.exchange(0)
        # It was exchanged at this tick, and has its last edition.
        self.fails(BadStep, bench.exchange, 0)
        for _ in range(3):
            bench.go()
        self.fails(BadStep, bench.exchange, 0)
        bench = Bench(FREE)
        bench.exchange(0)
        self.fails(BadStep, bench.exchange, 0)
        bench.go()
        bench.exchange(0)
        self.fails(BadStep, Bench(STILL).exchange, 0)
        self.fails(BadStep, Bench(LONE).exchange, 0)

    def test_a_wrong_step_changes_nothing(self):
        bench = Bench(FREE)
        bench.exchange(1)
        self.fails(BadStep, bench.exchange, 1)
        self.assertEqual([bench.tick, bench.standing, bench.plan, bench.harm], [0, (0, 1), ((), (0,)), ()])

    def test_wrong_wheels(self):
        for wheel in (3, -1, None, True, False, "0", (), (0,), [], {}, 10 ** 40):
            self.fails(BadWheel, Bench(THREE).exchange, wheel)


class GoTest(Case):

    def test_harm(self):
        bench = Bench(THREE)
        bench.exchange(0)
        self.assertEqual([bench.go(), bench.harm], [((0, 1),), ((0, (0, 1)),)])
        bench.exchange(1)
        self.assertEqual([bench.go(), bench.harm], [((1, 2),), ((0, (0, 1)), (1, (1, 2)))])
        self.assertEqual([bench.go(), bench.go(), bench.go()], [(), (), ((1, 2),)])
        self.assertEqual(bench.harm, ((0, (0, 1)), (1, (1, 2)), (4, (1, 2))))
        self.assertEqual(bench.tick, 5)
        bench.exchange(2)
        self.assertEqual(bench.standing, (1, 1, 1))
        self.assertEqual([bench.go() for _ in range(6)], [()] * 6)
        self.assertEqual(len(bench.harm), 3)

    def test_several_pairs(self):
        clock = (1, (1, 1, 1), ((0, 0, 1), (0, 0, 2), (0, 1, 2)), ((0,),) * 3, ((0, 1, 2, 1), (1, 1, 2, 1)))
        bench = Bench(clock)
        bench.exchange(1)
        bench.exchange(0)
        self.assertEqual(bench.go(), ((0, 2), (1, 2)))
        self.assertEqual(bench.harm, ((0, (0, 2)), (0, (1, 2))))

    def test_along_the_earliest_plan(self):
        for clock in (THREE, PAIR, ROW, SKIPS):
            plan = earliest(clock)
            bench = Bench(clock)
            while not bench.is_done():
                for wheel, ticks in enumerate(plan):
                    if bench.tick in ticks:
                        self.assertIn(wheel, bench.safe())
                        bench.exchange(wheel)
                self.assertEqual(bench.go(), ())
            self.assertEqual([bench.plan, bench.standing, bench.harm], [plan, clock[1], ()])
            self.assertEqual(bench.tick, max(ticks[-1] for ticks in plan) + 1)
            self.assertEqual(bench.rest(), ((),) * len(plan))
            self.assertEqual([bench.safe(), bench.may_wait()], [(), True])


class MomentTest(Case):

    def test_wheels_that_were_exchanged_at_this_tick(self):
        clock = (1, (2,), (), ((0,),), ())
        bench = Bench(clock)
        bench.exchange(0)
        self.assertEqual([bench.rest(), bench.safe(), bench.may_wait()], [((1,),), (), True])
        bench.go()
        self.assertEqual([bench.rest(), bench.safe(), bench.may_wait()], [((1,),), (0,), True])

    def test_one_that_is_needed_twice_at_once(self):
        # Wheel 1 needs the second edition of wheel 0, which comes at the next tick at the earliest.
        clock = (2, (2, 1), ((0, 0, 1),), ((0, 1), (0, 1)), ((1, 1, 0, 2),))
        bench = Bench(clock)
        self.assertEqual([bench.safe(), bench.rest()], [(0,), ((0, 1), (1,))])
        bench.exchange(0)
        self.assertEqual([bench.safe(), bench.rest(), bench.may_wait()], [(), ((1,), (1,)), True])
        bench.go()
        self.assertEqual([bench.safe(), bench.rest()], [(0, 1), ((1,), (1,))])
        bench.exchange(1)
        # The touch that wants it comes at the next tick, at which it can be exchanged, too.
        self.assertEqual([bench.safe(), bench.rest(), bench.may_wait()], [(0,), ((1,), ()), True])
        bench.go()
        self.assertEqual([bench.safe(), bench.rest(), bench.may_wait()], [(0,), ((2,), ()), False])
        bench.exchange(0)
        self.assertEqual([bench.safe(), bench.may_wait(), bench.is_done()], [(), True, True])

    def test_no_way_is_left(self):
        bench = Bench(THREE)
        bench.exchange(0)
        self.assertEqual([bench.rest(), bench.safe(), bench.may_wait()], [None, (), False])
        bench.go()
        bench.go()
        # What went wrong is past: the touches that come are all that counts.
        self.assertEqual(bench.rest(), None)
        bench.exchange(2)
        self.assertEqual([bench.rest(), bench.may_wait()], [None, False])
        for _ in range(2):
            bench.go()
        self.assertEqual(bench.tick, 4)
        bench.exchange(1)
        self.assertEqual([bench.rest(), bench.harm], [((), (), ()), ((0, (0, 1)), (3, (0, 1)))])

    def test_against_all_ways(self):
        counts = {"rest": 0, "none": 0, "busy": 0, "safe": 0, "waits": 0, "stays": 0, "harm": 0}
        for seed in range(150):
            clock = some_clock(seed)
            good = good_states(clock)
            chance = random.Random(seed)
            bench = Bench(clock)
            harm = []
            for _ in range(12):
                busy = []
                self.compare(clock, bench, good, busy, counts)
                for wheel in range(len(clock[1])):
                    # Mostly what is safe, so that the bench comes far.
                    if wheel in bench.safe() or chance.random() < 0.1:
                        try:
                            bench.exchange(wheel)
                            busy.append(wheel)
                        except BadStep:
                            pass
                        self.compare(clock, bench, good, busy, counts)
                unfit = tuple(plain_unfit(clock, bench.standing, bench.tick))
                harm.extend((bench.tick, pair) for pair in unfit)
                self.assertEqual(bench.go(), unfit)
                self.assertEqual(bench.harm, tuple(harm))
                counts["harm"] += bool(unfit)
        for name, many in counts.items():
            self.assertGreater(many, 40, name)

    def compare(self, clock, bench, good, busy, counts):
        """Compare what a bench tells of its moment with all ways of going on."""
        tick, standing = bench.tick, bench.standing
        told = earliest_ways(clock, tick, standing, good, busy)
        self.assertEqual(bench.rest(), told, (clock, bench.plan, tick))
        later = (tick + 1) % clock[0]
        able = [
            wheels for wheels, after in deeds(clock, tick, standing)
            if (later, after) in good and not any(wheel in busy for wheel in wheels)
        ]
        wheels = tuple(wheel for wheel in range(len(standing)) if any(wheel in deed for deed in able))
        self.assertEqual(bench.safe(), wheels, (clock, bench.plan, tick))
        self.assertIs(bench.may_wait(), () in able, (clock, bench.plan, tick))
        if not busy:
            self.assertEqual(bench.rest(), rest(clock, tick, standing))
            self.assertEqual(bench.safe(), safe(clock, tick, standing))
        counts["rest"] += told is not None
        counts["none"] += told is None
        counts["busy"] += bool(busy)
        counts["safe"] += bool(wheels)
        counts["waits"] += () in able
        counts["stays"] += () not in able
