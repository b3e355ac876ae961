"""Point 65: what is said at a desk, written down, read again and said again."""

import random

from livingclock.clocktexts import write_clock
from livingclock.desks import Desk
from livingclock.errors import BadLine, BadString
from livingclock.sessions import Session, first_unlike, read_session
from tests.samples import CHASE, JUNK, LONE, PAIR, ROW, SKIPS, STILL, STUCK, THREE, Case, some_clock

HEAD = "| period 1\n| wheel 0"
LINES = (
    "exchange 0", "exchange 1", "exchange 9", "go", "tick", "standing", "safe", "wait", "done", "rest", "back", "harm",
    "earliest", "latest 9", "plan 9 0", "parts", "count 9", "ring", "gaps", "entries", "", " ", "sing", "> tick",
    "| wheel 0", "< 5", "tick 1",
)


def some_session(seed):
    """Return a session of some lines, and the list of the pairs that a desk answers to them."""
    chance = random.Random(seed)
    text = write_clock(some_clock(seed, 4, 3, 2))
    desk, session = Desk(), Session(text)
    desk.read(text)
    pairs = []
    for _ in range(chance.randint(0, 25)):
        line = chance.choice(LINES)
        pairs.append((line, desk.say(line)))
        session.say(line)
    return session, pairs


class ExamplesTest(Case):

    def test_examples(self):
        session = Session("period 1\nwheel 0")
        self.assertEqual(session.say("tick"), "0")
        self.assertEqual(session.text(), "| period 1\n| wheel 0\n> tick\n< 0")
        self.assertEqual(first_unlike("| period 1\n| wheel 0\n> tick\n< 5"), 0)


class SessionTest(Case):

    def test_it_answers_as_a_desk_does(self):
        for seed in range(80):
            session, pairs = some_session(seed)
            self.assertEqual(session.log, tuple(pairs))

    def test_text(self):
        session = Session("  period   2 \n\nwheel 1 0 1\nwheel 1 1\ntouch 0 0 1\n need 0 1 1 1")
        head = "| period 2\n| wheel 1 0 1\n| wheel 1 1\n| touch 0 0 1\n| need 0 1 1 1"
        self.assertEqual([session.text(), session.log], [head, ()])
        self.assertEqual([session.say(" exchange  0"), session.say(""), session.say("go")], ["done", "what", "0!1"])
        self.assertEqual(session.log, ((" exchange  0", "done"), ("", "what"), ("go", "0!1")))
        self.assertEqual(session.text(), head + "\n>  exchange  0\n< done\n> \n< what\n> go\n< 0!1")

    def test_the_log_is_read_only(self):
        session = Session("period 1\nwheel 0")
        with self.assertRaises(AttributeError):
            session.log = ()

    def test_sessions_are_apart(self):
        one, other = Session("period 1\nwheel 0"), Session("period 1\nwheel 0")
        one.say("go")
        self.assertEqual([one.say("tick"), other.say("tick"), len(one.log), len(other.log)], ["1", "0", 2, 1])

    def test_wrong_texts(self):
        for value in JUNK:
            if not isinstance(value, str):
                self.fails(BadString, Session, value)
        self.fails(BadLine, Session, "", line=2, word=1)
        self.fails(BadLine, Session, "ring", line=1, word=1)
        self.fails(BadLine, Session, "period 1\nwheel 0 0 0", line=2, word=4)

    def test_wrong_lines(self):
        session = Session("period 1\nwheel 0")
        for value in JUNK + (5, ["tick"]):
            if not isinstance(value, str):
                self.fails(BadString, session.say, value)
        for line in ("\n", "tick\n", "\ntick", "tick\ngo"):
            self.fails(BadString, session.say, line)
        self.assertEqual([session.log, session.say("tick")], [(), "0"])


class ReadSessionTest(Case):

    def test_what_is_written_is_read(self):
        for seed in range(120):
            session, pairs = some_session(seed)
            clock = some_clock(seed, 4, 3, 2)
            self.assertEqual(read_session(session.text()), (clock, tuple(pairs)))
            self.assertIsNone(first_unlike(session.text()))
        for clock in (THREE, STUCK, PAIR, LONE, CHASE, ROW, SKIPS, STILL):
            self.assertEqual(read_session(Session(write_clock(clock)).text()), (clock, ()))

    def test_any_answers_are_read(self):
        told = read_session("|  period  1\n| \n| wheel 0\n> go\n< \n> \n<  fit \n> > tick\n< < 0")
        self.assertEqual(told, (LONE, (("go", ""), ("", " fit "), ("> tick", "< 0"))))

    def test_first_wrong_line(self):
        cases = (
            ("", 1), ("\n", 1), (" ", 1), ("period 1\nwheel 0", 1), ("|period 1", 1), ("|", 1),
            (HEAD + "\n", 3), (HEAD + "\n\n> tick\n< 0", 3), (HEAD + "\ntick", 3), (HEAD + "\n>tick\n< 0", 3),
            (HEAD + "\n< 0", 3), (HEAD + "\n>\n< what", 3), (HEAD + "\n> tick", 4), (HEAD + "\n> tick\n", 4),
            (HEAD + "\n> tick\n> tick", 4), (HEAD + "\n> tick\n<0", 4), (HEAD + "\n> tick\n< 0\n", 5),
            (HEAD + "\n> tick\n< 0\n< 0", 5), (HEAD + "\n> tick\n< 0\n> go", 6), (HEAD + "\n> tick\n| wheel 0", 4),
            (HEAD + "\n> tick\n< 0\n| wheel 0", 5), (HEAD + "\n > tick\n< 0", 3), (HEAD + "\n> tick\n< 0\n> go\nfit", 6),
            ("> tick", 2), ("> tick\n< 0\n", 3), ("< 0", 1),
        )
        for call in (read_session, first_unlike):
            for text, line in cases:
                self.fails(BadLine, call, text, line=line, word=1)

    def test_then_the_clock(self):
        for call in (read_session, first_unlike):
            self.fails(BadLine, call, "| period 13", line=1, word=2)
            self.fails(BadLine, call, "| period 1", line=2, word=1)
            self.fails(BadLine, call, "| period 1\n> tick\n< 0", line=2, word=1)
            self.fails(BadLine, call, "| ", line=2, word=1)
            self.fails(BadLine, call, "> tick\n< 0", line=2, word=1)
            self.fails(BadLine, call, "| period 1\n| \n| wheel 1\n> tick\n< 0", line=3, word=3)
            self.fails(BadLine, call, "| period 1\n| wheel 0 1", line=2, word=3)
            self.fails(BadLine, call, "| period 1\n| wheel 0\n| ring", line=3, word=1)
            self.fails(BadLine, call, "| | period 1\n| wheel 0", line=1, word=1)
            # The lines behind those of the clock come first.
            self.fails(BadLine, call, "| period 13\n> tick", line=3, word=1)
            self.fails(BadLine, call, "| period 13\n", line=2, word=1)
            for value in JUNK:
                if not isinstance(value, str):
                    self.fails(BadString, call, value)


class FirstUnlikeTest(Case):

    def test_changed_answers(self):
        for seed in range(100):
            session, pairs = some_session(seed)
            if not pairs:
                continue
            place = random.Random(seed).randrange(len(pairs))
            lines = session.text().split("\n")
            head = len(lines) - 2 * len(pairs)
            lines[head + 2 * place + 1] += " "
            self.assertEqual(first_unlike("\n".join(lines)), place)
            lines[-1] = "< "
            self.assertEqual(first_unlike("\n".join(lines)), place)

    def test_left_out_lines(self):
        text = HEAD + "\n> go\n< fit\n> tick\n< 1\n> tick\n< 1"
        self.assertIsNone(first_unlike(text))
        self.assertEqual(first_unlike(HEAD + "\n> tick\n< 1\n> tick\n< 1"), 0)
        self.assertEqual(first_unlike(HEAD + "\n> go\n< fit\n> go\n< fit\n> tick\n< 1"), 2)
        self.assertIsNone(first_unlike(HEAD))
        self.assertIsNone(first_unlike(HEAD + "\n> \n< what"))
