"""Sessions: what is said at a desk, written down, read again and said again."""

from livingclock.clocktexts import check_string, read_clock, write_clock
from livingclock.desks import Desk
from livingclock.errors import BadLine, BadString

OF_CLOCK = "| "
SAID = "> "
ANSWERED = "< "


class Session:
    """A desk with the clock of a text, and what was said at it."""

    def __init__(self, text):
        self._desk = Desk()
        self._desk.read(text)
        self._log = ()

    @property
    def log(self):
        """The tuple of the pairs (line, answer) so far."""
        return self._log

    def say(self, line):
        """Return the desk's answer to a line."""
        check_string(line)
        if "\n" in line:
            raise BadString("a line has no line's end in it")
        answer = self._desk.say(line)
        self._log = self._log + ((line, answer),)
        return answer

    def text(self):
        """Return the text of the session."""
        lines = [OF_CLOCK + line for line in write_clock(self._desk.clock).split("\n")]
        for line, answer in self._log:
            lines.extend([SAID + line, ANSWERED + answer])
        return "\n".join(lines)


def read_session(text):
    """Return the clock of the text of a session, and the tuple of its pairs (line, answer)."""
    check_string(text)
    lines = text.split("\n")
    many = many_of_clock(lines)
    said = lines[many:]
    for place, line in enumerate(said):
        if not line.startswith(ANSWERED if place % 2 else SAID):
            raise BadLine(many + place + 1, 1)
    if len(said) % 2:
        raise BadLine(len(lines) + 1, 1)
    clock = read_clock("\n".join([line[len(OF_CLOCK):] for line in lines[:many]]))
    told = [line[len(SAID):] for line in said]
    return (clock, tuple(zip(told[::2], told[1::2])))


def first_unlike(text):
    """Return the place of the first pair whose answer is another one if all is said again, None without one."""
    clock, pairs = read_session(text)
    session = Session(write_clock(clock))
    for place, (line, answer) in enumerate(pairs):
        if session.say(line) != answer:
            return place
    return None


def many_of_clock(lines):
    """Return how many lines at the head are those of the clock."""
    many = 0
    while many < len(lines) and lines[many].startswith(OF_CLOCK):
        many += 1
    return many
