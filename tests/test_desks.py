"""Point 64: a clock at work and what is asked of it, in words."""

import random

from livingclock.backs import led_back
from livingclock.benches import Bench
from livingclock.clocktexts import write_clock
from livingclock.desks import Desk
from livingclock.earliest import earliest
from livingclock.errors import BadLine, BadString
from livingclock.joinings import parts
from livingclock.lattices import count_plans, latest, plan_at
from livingclock.mends import fewest_entries, fewest_gaps
from livingclock.rings import is_ring
from tests.samples import CHASE, JUNK, LONE, PAIR, ROW, SKIPS, STILL, STUCK, THREE, Case, some_clock

EXAMPLE = (2, (1, 1), ((0, 0, 1),), ((0, 1), (1,)), ((0, 1, 1, 1),))
SAMPLES = (THREE, STUCK, PAIR, LONE, CHASE, SKIPS, STILL, EXAMPLE)
# Lines of all forms, with numbers that all clocks have.
FORMS = (
    "exchange 0", "go", "tick", "standing", "safe", "wait", "done", "rest", "back", "harm", "earliest", "latest 5",
    "plan 5 0", "parts", "count 5", "ring", "gaps", "entries",
)
NUMBERS = ("exchange {}", "latest {}", "count {}", "plan {} 0", "plan 60 {}")


def desk_of(clock):
    """Return a desk with a clock."""
    desk = Desk()
    desk.read(write_clock(clock))
    return desk


def words(told):
    """Return words as they are told."""
    return " ".join(str(word) for word in told) or "-"


def rows(told):
    """Return rows as they are told."""
    if told is None:
        return "no way"
    return "; ".join(words(row) for row in told) or "-"


class ExamplesTest(Case):

    def test_examples(self):
        desk = Desk()
        self.assertIsNone(desk.read("period 2\nwheel 1 0 1\nwheel 1 1\ntouch 0 0 1\nneed 0 1 1 1"))
        lines = ["safe", "earliest", "exchange 0", "go", "harm", "exchange 1", "rest", "sing"]
        self.assertEqual(
            [desk.say(line) for line in lines], ["-", "1; 1", "done", "0!1", "0:0!1", "done", "-; -", "what"],
        )


class ReadTest(Case):

    def test_a_new_bench(self):
        desk = desk_of(THREE)
        for line in ("go", "exchange 1", "go"):
            desk.say(line)
        self.assertEqual([desk.say("tick"), desk.say("standing"), desk.say("harm")], ["2", "0 1 0", "1:1!2"])
        desk.read(write_clock(THREE))
        self.assertEqual([desk.say("tick"), desk.say("standing"), desk.say("harm")], ["0", "0 0 0", "-"])
        desk.read(write_clock(LONE))
        self.assertEqual([desk.say("standing"), desk.say("earliest")], ["0", "-"])

    def test_wrong_texts(self):
        desk = Desk()
        for value in JUNK:
            if not isinstance(value, str):
                self.fails(BadString, desk.read, value)
        self.fails(BadLine, desk.read, "", line=2, word=1)
        self.fails(BadLine, desk.read, "period 13", line=1, word=2)
        self.fails(BadLine, desk.read, "period 2\nwheel 1 0 1\nwheel 1 2", line=3, word=3)
        self.assertEqual(desk.say("tick"), "no clock")
        # What can't be read leaves the clock that is there.
        desk.read(write_clock(THREE))
        desk.say("go")
        self.fails(BadLine, desk.read, "period 13", line=1, word=2)
        self.fails(BadString, desk.read, None)
        self.assertEqual([desk.say("tick"), desk.say("standing")], ["1", "0 0 0"])

    def test_desks_are_apart(self):
        one, other = desk_of(THREE), desk_of(THREE)
        one.say("go")
        self.assertEqual([one.say("tick"), other.say("tick")], ["1", "0"])


class FormsTest(Case):

    def test_what(self):
        wrong = ["", " ", "sing", "Tick", "tick 0", "tick tick", "exchange", "exchange 0 1", "latest", "latest 5 5",
                 "plan", "plan 5", "plan 5 0 0", "count", "count 5 5", "rest 0", "ring 0", "go go", "exchange0",
                 "tick\n", "\ntick", "tick\t", "exchange\t0", "tick;", "is_done", "no clock", "0", "-", "back 0",
                 "gaps 1", "entries 1", "done done", "harm 0", "parts 1", "earliest 1", "read", "say", "\u00a0tick"]
        for desk in (Desk(), desk_of(THREE)):
            for line in wrong + [form.upper() for form in FORMS] + [form + " x" for form in FORMS]:
                self.assertEqual(desk.say(line), "what", line)
            for value in JUNK + (5, ["tick"], ("tick",), {"tick": 1}):
                if value != "ring":
                    self.assertEqual(desk.say(value), "what")

    def test_no_clock(self):
        desk = Desk()
        for form in FORMS:
            self.assertEqual(desk.say(form), "no clock", form)
        for form in NUMBERS:
            for number in ("99", "x", "007"):
                self.assertEqual(desk.say(form.format(number)), "no clock")

    def test_no_such_number(self):
        desk = desk_of(THREE)
        for form in NUMBERS:
            for word in ("x", "01", "00", "-1", "+1", "1.0", "1000000", "0000000", "\u0661", "\u00b2", "1_0", "0x1",
                         "61", "999999"):
                if not (form == "plan 60 {}" and word == "61"):
                    self.assertEqual(desk.say(form.format(word)), "no such number", (form, word))
        for line in ("exchange 3", "latest 0", "count 0", "plan 0 0", "plan 6 0", "plan 7 1", "plan 61 0", "latest 61"):
            self.assertEqual(desk.say(line), "no such number", line)
        for line in ("exchange 2", "latest 1", "latest 60", "count 1", "count 60", "plan 7 0", "plan 60 61"):
            self.assertNotEqual(desk.say(line), "no such number", line)
        stuck = desk_of(STUCK)
        self.assertEqual(stuck.say("plan 60 0"), "no such number")

    def test_any_number_of_spaces(self):
        desk = desk_of(THREE)
        self.assertEqual(desk.say("  plan   7  0 "), "6; 4; 2")
        self.assertEqual([desk.say(" go "), desk.say("tick "), desk.say(" exchange  1")], ["fit", "1", "done"])


class AnswersTest(Case):

    def test_of_the_clock(self):
        for clock in SAMPLES + (ROW,) + tuple(some_clock(seed, 4, 4, 2) for seed in range(60)):
            desk = desk_of(clock)
            self.assertEqual(desk.say("earliest"), rows(earliest(clock)))
            self.assertEqual(desk.say("parts"), rows(parts(clock)))
            for before in (1, 7, 15):
                self.assertEqual(desk.say(f"latest {before}"), rows(latest(clock, before)))
                many = count_plans(clock, before)
                self.assertEqual(desk.say(f"count {before}"), str(many))
                for number in sorted({0, many // 2, many - 1}):
                    if 0 <= number < min(many, 10 ** 6):
                        self.assertEqual(desk.say(f"plan {before} {number}"), rows(plan_at(clock, before, number)))
                if many < 10 ** 6:
                    self.assertEqual(desk.say(f"plan {before} {many}"), "no such number")
            lot = fewest_gaps(clock)[0]
            told = "no way" if lot is None else words(f"{wheel}@{phase}" for wheel, phase in lot)
            self.assertEqual(desk.say("gaps"), told)
            self.assertEqual(desk.say("entries"), rows(fewest_entries(clock)[0]))
            self.assertEqual(desk.say("tick"), "0")

    def test_ring(self):
        for clock in SAMPLES + tuple(some_clock(seed, 4, 3, 2) for seed in range(80)):
            answer = desk_of(clock).say("ring")
            if earliest(clock) is not None:
                self.assertEqual(answer, "-")
                continue
            pairs = []
            for word in answer.split(" "):
                exchange, number = word.split("@")
                pairs.append((tuple(map(int, exchange.split("."))), int(number)))
            self.assertTrue(is_ring(clock, tuple(pairs)))
        self.assertIn(desk_of(STUCK).say("ring"), ("0.1@0 1.1@1 0.1@2", "1.1@1 0.1@2 1.1@3"))

    def test_by_hand(self):
        desk = desk_of(STUCK)
        told = [desk.say(line) for line in ("earliest", "latest 9", "count 9", "rest", "gaps", "entries", "parts")]
        self.assertEqual(told, ["no way", "no way", "0", "no way", "0@1", "0 1 1 1", "0 1"])
        never = (1, (1, 1), ((0, 0, 1),), ((0,), (0,)), ((0, 1, 1, 1), (1, 1, 0, 1)))
        self.assertEqual(desk_of(never).say("gaps"), "-")
        chase = (2, (2, 2), ((0, 0, 1), (1, 0, 1)), ((0, 1), (0, 1)), ((0, 1, 1, 2), (1, 1, 0, 1)))
        desk = desk_of(chase)
        self.assertEqual([desk.say("gaps"), desk.say("entries"), desk.say("back")], ["no way", "0 1 1 2", "-; -"])
        self.assertEqual(desk_of(ROW).say("entries"), "-")
        self.assertEqual(desk_of(STILL).say("parts"), "0; 1; 2")
        self.assertEqual([desk_of(LONE).say(line) for line in ("safe", "wait", "done", "rest", "back", "harm")],
                         ["-", "yes", "yes", "-", "-", "-"])

    def test_of_the_moment(self):
        for seed in range(60):
            chance = random.Random(seed)
            clock = some_clock(seed, 4, 3, 2)
            desk, bench = desk_of(clock), Bench(clock)
            first = (0,) * len(clock[1])
            for _ in range(25):
                self.assertEqual(desk.say("tick"), str(bench.tick))
                self.assertEqual(desk.say("standing"), words(bench.standing))
                self.assertEqual(desk.say("safe"), words(bench.safe()))
                self.assertEqual(desk.say("wait"), "yes" if bench.may_wait() else "no")
                self.assertEqual(desk.say("done"), "yes" if bench.is_done() else "no")
                self.assertEqual(desk.say("rest"), rows(bench.rest()))
                self.assertEqual(desk.say("back"), rows(led_back(clock, bench.tick, bench.standing, first)))
                self.assertEqual(desk.say("harm"), words(f"{tick}:{i}!{j}" for tick, (i, j) in bench.harm))
                if chance.random() < 0.5:
                    pairs = bench.go()
                    self.assertEqual(desk.say("go"), words(f"{i}!{j}" for i, j in pairs) if pairs else "fit")
                    continue
                wheel = chance.randrange(len(clock[1]))
                before = bench.standing
                try:
                    bench.exchange(wheel)
                except ValueError:
                    self.assertEqual(desk.say(f"exchange {wheel}"), "cannot")
                    self.assertEqual(desk.say("standing"), words(before))
                else:
                    self.assertEqual(desk.say(f"exchange {wheel}"), "done")
