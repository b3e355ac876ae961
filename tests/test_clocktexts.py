"""Points 50 and 51: the texts of clocks and plans."""

from livingclock.clocktexts import read_clock, read_plan, write_clock, write_plan
from livingclock.earliest import earliest
from livingclock.errors import BadClock, BadLine, BadPlan, BadString
from tests.samples import CHASE, LONE, PAIR, ROW, SKIPS, STILL, STUCK, THREE, Case, some_clock

EXAMPLE = (2, (1, 0), ((1, 0, 1),), ((0,), ()), ())
SAMPLES = (THREE, STUCK, PAIR, LONE, CHASE, ROW, SKIPS, STILL, EXAMPLE)
HEAD = "period 4\nwheel 2 0 2\nwheel 1 1\nwheel 0\n"
# Texts behind HEAD, which has three lines of wheels, and the line and word that are wrong.
WRONG_ENDS = (
    ("period 4", 5, 1), ("Wheel 0", 5, 1), ("wheels 0", 5, 1), ("5", 5, 1), ("-", 5, 1), ("\twheel 0", 5, 1),
    ("wheel", 5, 2), ("wheel 5 0", 5, 2), ("wheel -1", 5, 2), ("wheel x", 5, 2), ("wheel 00", 5, 2),
    ("wheel 01 0", 5, 2), ("wheel +1 0", 5, 2), ("wheel 1.0 0", 5, 2), ("wheel 1_0 0", 5, 2),
    ("wheel " + "9" * 5000, 5, 2), ("wheel 1", 5, 3), ("wheel 4 ", 5, 3), ("wheel 1 4", 5, 3), ("wheel 1 x", 5, 3),
    ("wheel 0 4", 5, 3), ("wheel 1 2 2", 5, 4), ("wheel 1 2 1", 5, 4), ("wheel 1 0 1 2 3 3", 5, 7),
    ("wheel 1 0 1 2 3 4", 5, 7), ("wheel 1 0 wheel", 5, 4), ("wheel 0 1 1", 5, 4),
    ("touch", 5, 2), ("touch 4", 5, 2), ("touch 4 0 1", 5, 2), ("touch 0", 5, 3), ("touch 0 3", 5, 3),
    ("touch 0 3 2", 5, 3), ("touch 0 2", 5, 4), ("touch 0 2 3", 5, 4), ("touch 0 1 1", 5, 4), ("touch 0 1 0", 5, 4),
    ("touch 0 0 3", 5, 4), ("touch 0 0 1 0", 5, 5), ("touch 0 0 1 need", 5, 5), ("touch 0 0 01", 5, 4),
    ("touch 0 0 1\nwheel 0", 6, 1), ("touch 0 0 1\nperiod 4", 6, 1), ("touch 0 0 1\nfoo", 6, 1),
    ("touch 1 1 2\ntouch 0 1 2", 6, 2), ("touch 1 1 2\ntouch 1 0 2", 6, 3), ("touch 1 0 2\ntouch 1 0 1", 6, 4),
    ("touch 1 0 2\ntouch 1 0 2", 6, 4), ("touch 1 1 2\ntouch 0 4 2", 6, 3), ("touch 1 1 2\ntouch 0 0", 6, 4),
    ("touch 1 1 2\ntouch 0 0 1 7", 6, 2), ("touch 1 1 2\ntouch 0", 6, 3), ("touch 1 1 2\ntouch 0 2 2", 6, 4),
    ("touch 1 0 2\ntouch 1 0 2 2", 6, 4), ("touch 1 0 1\ntouch 2 0 1 1", 6, 5),
    ("need", 5, 2), ("need 3", 5, 2), ("need 0", 5, 3), ("need 0 0", 5, 3), ("need 0 3 1 1", 5, 3),
    ("need 2 1 0 1", 5, 3), ("need 2", 5, 3), ("need 0 1", 5, 4), ("need 0 1 0 1", 5, 4), ("need 0 1 3 1", 5, 4),
    ("need 0 1 1", 5, 5), ("need 0 1 1 0", 5, 5), ("need 0 1 1 2", 5, 5), ("need 0 1 2 1", 5, 5),
    ("need 0 1 2", 5, 5), ("need 0 1 1 1 1", 5, 6), ("need 0 1 1 1 need", 5, 6),
    ("need 0 1 1 1\ntouch 0 0 1", 6, 1), ("need 0 1 1 1\nwheel 0", 6, 1), ("need 0 1 1 1\nperiod 1", 6, 1),
    ("need 1 1 0 1\nneed 0 1 1 1", 6, 2), ("need 0 2 1 1\nneed 0 1 1 1", 6, 3),
    ("need 0 1 1 1\nneed 0 1 1 1", 6, 4), ("need 0 1 1 1\nneed 0 1 1", 6, 4), ("need 0 1 1 1\nneed 0 1 1 5", 6, 4),
    ("need 0 1 2 1", 5, 5), ("need 1 1 0 2\nneed 1 1 0 1", 6, 4), ("need 1 1 0 1\nneed 0 0 1 1", 6, 3),
    ("need 1 1 0 1\nneed 0 1 0 1", 6, 4), ("need 1 1 0 1\nneed 0", 6, 3), ("need 1 1 0 1\nneed 0 1 2 9", 6, 2),
    ("need 0 2 1 1\nneed 0 1 2 1", 6, 3),
)
WRONG_TEXTS = (
    ("", 2, 1), ("\n", 3, 1), ("\n \n\n", 5, 1), ("   ", 2, 1), ("period 2", 2, 1), ("period 2\n", 3, 1),
    ("\nperiod 2\n\n", 5, 1), ("wheel 0", 1, 1), ("touch 0 0 1", 1, 1), ("need 0 1 1 1", 1, 1), ("foo", 1, 1),
    ("\n\nfoo", 3, 1), ("period", 1, 2), ("\nperiod", 2, 2), ("period 0", 1, 2), ("period 13", 1, 2),
    ("period -1", 1, 2), ("period x", 1, 2), ("period 012", 1, 2), ("period 2 3", 1, 3), ("period 2 wheel 0", 1, 3),
    ("period\t2\nwheel 0", 1, 1), ("period 2\r\nwheel 0", 1, 2), ("period 2\nperiod 2", 2, 1),
    ("period 2\ntouch 0 0 1", 2, 1), ("period 2\nneed 0 1 1 1", 2, 1), ("period 2\n\n\nfoo", 4, 1),
    ("period 2\nwheel 0\ntouch 0 0 1", 3, 4), ("period 2\nwheel 0\ntouch 0 0", 3, 4),
    ("period 2\nwheel 1 0\nneed 0 1 0 1", 3, 4), ("period 2\nwheel 1 0\nneed 0 1", 3, 4),
    ("period 2" + "\nwheel 0" * 13, 14, 1), ("period 2" + "\nwheel 0" * 12 + "\nwheel", 14, 1),
    ("period 2" + "\nwheel 4 0" * 6 + "\nwheel 1 0", 8, 2), ("period 2" + "\nwheel 4 0" * 5 + "\nwheel 3 1\nwheel 2 0", 8, 2),
    ("period 2" + "\nwheel 4 0" * 6 + "\nwheel 1", 8, 2), ("period 12\nwheel 1 12", 2, 3),
)


class ExamplesTest(Case):

    def test_examples(self):
        clock = read_clock("period 2\nwheel 1 0\nwheel 0\ntouch 1 0 1")
        self.assertEqual(clock, EXAMPLE)
        self.assertEqual(read_plan(clock, "wheel 4\nwheel"), ((4,), ()))
        self.fails(BadLine, read_clock, "period 13", line=1, word=2)


class WriteClockTest(Case):

    def test_by_hand(self):
        self.assertEqual(write_clock(EXAMPLE), "period 2\nwheel 1 0\nwheel 0\ntouch 1 0 1")
        self.assertEqual(write_clock(LONE), "period 1\nwheel 0")
        self.assertEqual(
            write_clock(SKIPS),
            "period 4\nwheel 4 1 3\nwheel 3 0 1 2\ntouch 0 0 1\ntouch 2 0 1\n"
            "need 0 1 1 2\nneed 0 2 1 1\nneed 0 4 1 3\nneed 1 2 0 1",
        )
        self.assertEqual(write_clock(STILL), "period 12\nwheel 0\nwheel 0 3 4\nwheel 0\ntouch 5 0 2\ntouch 11 1 2")

    def test_read_again(self):
        for clock in SAMPLES + tuple(some_clock(seed, 12, 6, 4) for seed in range(100)):
            self.assertEqual(read_clock(write_clock(clock)), clock)

    def test_wrong_clocks(self):
        self.fails(BadClock, write_clock, "period 1\nwheel 0", part="clock")


class ReadClockTest(Case):

    def test_spaces_and_void_lines(self):
        self.assertEqual(read_clock("\n  \nperiod  2 \n\n wheel   1 0\nwheel 0\n   touch 1   0 1\n\n "), EXAMPLE)
        for clock in SAMPLES:
            self.assertEqual(read_clock(write_clock(clock).replace(" ", "   ").replace("\n", " \n\n ")), clock)

    def test_most(self):
        self.assertEqual(read_clock("period 12" + "\nwheel 0" * 12), (12, (0,) * 12, (), ((),) * 12, ()))
        text = "period 1" + "\nwheel 4 0" * 6 + "\nwheel 0" * 6
        self.assertEqual(read_clock(text), (1, (4,) * 6 + (0,) * 6, (), ((0,),) * 6 + ((),) * 6, ()))

    def test_lines_that_may_be_left_out(self):
        self.assertEqual(read_clock(HEAD + "need 0 2 1 1")[4], ((0, 2, 1, 1),))
        self.assertEqual(read_clock(HEAD + "touch 3 1 2")[2], ((3, 1, 2),))
        self.assertEqual(read_clock(HEAD)[1], (2, 1, 0))
        self.assertEqual(read_clock(HEAD + "wheel 0 0 3")[3], ((0, 2), (1,), (), (0, 3)))

    def test_rising(self):
        text = HEAD + "touch 0 1 2\ntouch 1 0 1\ntouch 1 0 2\ntouch 1 1 2\nneed 0 1 1 1\nneed 0 2 1 1\nneed 1 1 0 1"
        self.assertEqual(read_clock(text)[2:3], (((0, 1, 2), (1, 0, 1), (1, 0, 2), (1, 1, 2)),))
        self.assertEqual(read_clock(text)[4], ((0, 1, 1, 1), (0, 2, 1, 1), (1, 1, 0, 1)))

    def test_wrong_lines(self):
        for end, line, word in WRONG_ENDS:
            self.fails(BadLine, read_clock, HEAD + end, line=line, word=word)
            # What follows is not asked, and void lines and spaces are passed over.
            self.fails(BadLine, read_clock, HEAD + end + "\nfoo", line=line, word=word)
            spaced = "\n" + (HEAD + end).replace(" ", "  ")
            self.fails(BadLine, read_clock, spaced, line=line + 1, word=word)

    def test_wrong_texts(self):
        for text, line, word in WRONG_TEXTS:
            self.fails(BadLine, read_clock, text, line=line, word=word)

    def test_a_changed_word_is_never_passed_over(self):
        for clock in SAMPLES:
            lines = write_clock(clock).split("\n")
            for place, line in enumerate(lines):
                words = line.split(" ")
                for at in range(len(words)):
                    for other in ("x", "99", "-1", "0x0", words[at] + "0x", "0" + words[at]):
                        told = " ".join(words[:at] + [other] + words[at + 1:])
                        text = "\n".join(lines[:place] + [told] + lines[place + 1:])
                        self.fails(BadLine, read_clock, text, line=place + 1, word=at + 1)

    def test_other_figures(self):
        # Figures of other scripts are no figures here.
        self.fails(BadLine, read_clock, "period \u0662\nwheel 0", line=1, word=2)
        self.fails(BadLine, read_clock, "period \u00b2\nwheel 0", line=1, word=2)

    def test_wrong_strings(self):
        for text in (None, True, 0, (), ("period 1",), ["period 1", "wheel 0"], {}):
            self.fails(BadString, read_clock, text)


class PlanTest(Case):

    def test_by_hand(self):
        self.assertEqual(write_plan(THREE, ((6,), (4,), (2,))), "wheel 6\nwheel 4\nwheel 2")
        self.assertEqual(write_plan(LONE, ((),)), "wheel")
        self.assertEqual(read_plan(LONE, "wheel"), ((),))
        self.assertEqual(read_plan(SKIPS, " \n wheel 1 3  5 99999\n\nwheel 100000 \n".replace("wheel 1000", "wheel 0 1 1000")),
                         ((1, 3, 5, 99999), (0, 1, 100000)))

    def test_read_again(self):
        many = 0
        for clock in SAMPLES + tuple(some_clock(seed) for seed in range(100)):
            plan = earliest(clock)
            if plan is not None:
                self.assertEqual(read_plan(clock, write_plan(clock, plan)), plan)
                many += 1
        self.assertGreater(many, 40)

    def test_plans_need_not_be_right(self):
        self.assertEqual(read_plan(THREE, "wheel 0\nwheel 1\nwheel 2"), ((0,), (1,), (2,)))

    def test_wrong_lines(self):
        clock = (4, (2, 0), (), ((0, 2), ()), ())
        wrong = (
            ("", 2, 1), ("\n\n", 4, 1), ("wheel 0 2", 2, 1), ("wheel 0 2\n", 3, 1), ("wheel 0 2\n\n", 4, 1),
            ("period 4", 1, 1), ("0 2", 1, 1), ("Wheel 0 2", 1, 1), ("wheel", 1, 2), ("wheel 0", 1, 3),
            ("wheel 1", 1, 2), ("wheel 1 2\nwheel", 1, 2), ("wheel 0 3", 1, 3), ("wheel 0 0", 1, 3),
            ("wheel 2 0", 1, 3), ("wheel 0 2 4", 1, 4), ("wheel 0 2 x", 1, 4), ("wheel 00 2", 1, 2),
            ("wheel 0 02", 1, 3), ("wheel -2 0", 1, 2), ("wheel x", 1, 2), ("wheel 0 100002", 1, 3),
            ("wheel 0 1000000", 1, 3), ("wheel 0 " + "8" * 5000, 1, 3), ("wheel 0 2\nwheel 0", 2, 2),
            ("wheel 0 2\nwheel\nwheel", 3, 1), ("wheel 0 2\nwheel\nfoo", 3, 1), ("wheel 0 2\nwheel\n\nwheel 0 2", 4, 1),
            ("wheel 0 2\n\nwheel 0", 3, 2), ("\nwheel 0\nwheel", 2, 3), ("wheel 0 2 wheel", 1, 4),
            ("wheel 0 2\ntouch", 2, 1), ("wheel\t0 2\nwheel", 1, 1),
        )
        self.assertEqual(read_plan(clock, "wheel 0 100000\nwheel"), ((0, 100000), ()))
        for text, line, word in wrong:
            self.fails(BadLine, read_plan, clock, text, line=line, word=word)

    def test_wrong_arguments(self):
        for text in (None, True, 0, (), ("wheel 6",), ["wheel"], {}):
            self.fails(BadString, read_plan, THREE, text)
        self.fails(BadClock, read_plan, None, None, part="clock")
        self.fails(BadPlan, write_plan, THREE, ((6,), (4,), (3,)), wheel=2)
        self.fails(BadPlan, write_plan, THREE, "wheel 6\nwheel 4\nwheel 2", wheel=None)
        self.fails(BadClock, write_plan, (3, (1,), (), ((0,),), None), None, part="book")
