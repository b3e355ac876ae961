"""A desk: a clock at work and what is asked of it, in words."""

from livingclock.backs import way_back
from livingclock.benches import Bench
from livingclock.clocktexts import number_of, read_clock
from livingclock.earliest import earliest
from livingclock.errors import BadNumber, BadStep
from livingclock.joinings import parts
from livingclock.lattices import MOST_BEFORE, count_plans, latest, plan_at
from livingclock.mends import fewest_entries, fewest_gaps
from livingclock.rings import ring

NOTHING = "-"
NO_WAY = "no way"
NO_NUMBER = "no such number"


def tell_numbers(numbers):
    """Return the words of some numbers."""
    return tell_words([str(number) for number in numbers])


def tell_words(words):
    """Return words as they are told, a dash for none."""
    return " ".join(words) if words else NOTHING


def tell_rows(rows):
    """Return rows of numbers as they are told, a dash for none, no way for None."""
    if rows is None:
        return NO_WAY
    return "; ".join([tell_numbers(row) for row in rows]) if rows else NOTHING


def tell_pair(pair):
    """Return the word of two wheels that don't fit."""
    return f"{pair[0]}!{pair[1]}"


def tell_choice(choice):
    """Return the word of True or False."""
    return "yes" if choice else "no"


def tell_go(bench):
    """Let the tick's touches happen and tell the pairs that didn't fit."""
    pairs = bench.go()
    return tell_words([tell_pair(pair) for pair in pairs]) if pairs else "fit"


def tell_tick(bench):
    """Tell the tick that is now."""
    return str(bench.tick)


def tell_standing(bench):
    """Tell the editions that the wheels have now."""
    return tell_numbers(bench.standing)


def tell_safe(bench):
    """Tell the wheels that may be exchanged now."""
    return tell_numbers(bench.safe())


def tell_wait(bench):
    """Tell whether nothing more need be exchanged at this tick."""
    return tell_choice(bench.may_wait())


def tell_done(bench):
    """Tell whether all wheels have their last editions."""
    return tell_choice(bench.is_done())


def tell_rest(bench):
    """Tell the earliest rest from now on."""
    return tell_rows(bench.rest())


def tell_harm(bench):
    """Tell the ticks and pairs of wheels that didn't fit so far."""
    return tell_words([f"{tick}:{tell_pair(pair)}" for tick, pair in bench.harm])


def tell_earliest(clock):
    """Tell the earliest plan."""
    return tell_rows(earliest(clock))


def tell_parts(clock):
    """Tell the lots of wheels that hang together."""
    return tell_rows(parts(clock))


def tell_ring(clock):
    """Tell a ring, a dash for none."""
    pairs = ring(clock)
    if pairs is None:
        return NOTHING
    return tell_words([f"{exchange[0]}.{exchange[1]}@{number}" for exchange, number in pairs])


def tell_gaps(clock):
    """Tell the fewest gaps to add so that there is a right plan."""
    lot = fewest_gaps(clock)[0]
    if lot is None:
        return NO_WAY
    return tell_words([f"{wheel}@{phase}" for wheel, phase in lot])


def tell_entries(clock):
    """Tell the fewest entries to take away so that there is a right plan."""
    return tell_rows(fewest_entries(clock)[0])


# The words that stand alone: those that ask a bench, and those that ask a clock.
OF_BENCH = {
    "go": tell_go, "tick": tell_tick, "standing": tell_standing, "safe": tell_safe, "wait": tell_wait,
    "done": tell_done, "rest": tell_rest, "harm": tell_harm,
}
OF_CLOCK = {
    "earliest": tell_earliest, "parts": tell_parts, "ring": tell_ring, "gaps": tell_gaps, "entries": tell_entries,
}
# The words behind which numbers stand, and how many.
NUMBERS = {"exchange": 1, "latest": 1, "count": 1, "plan": 2}


class Desk:
    """A desk at which lines of words are answered."""

    def __init__(self):
        self.clock = None
        self.bench = None

    def read(self, text):
        """Take the clock of a text, at work from tick 0 on."""
        clock = read_clock(text)
        self.clock = clock
        self.bench = Bench(clock)

    def say(self, line):
        """Return the answer to a line."""
        words = words_of(line)
        if not is_asked(words):
            return "what"
        if self.bench is None:
            return "no clock"
        if words[0] in NUMBERS:
            return self._answer_numbers(words[0], [number_of(word) for word in words[1:]])
        return self._answer(words[0])

    def _answer(self, word):
        """Return the answer to a word that stands alone."""
        if word == "back":
            first = (0,) * len(self.clock[1])
            return tell_rows(way_back(self.clock, self.bench.tick, self.bench.standing, first))
        if word in OF_BENCH:
            action = OF_BENCH[word]
            return action(self.bench)
        action = OF_CLOCK[word]
        return action(self.clock)

    def _answer_numbers(self, word, numbers):
        """Return the answer to a word with numbers, each None if it is no number as they are written."""
        if None in numbers:
            return NO_NUMBER
        if word == "exchange":
            return self._exchanged(numbers[0])
        if not 1 <= numbers[0] <= MOST_BEFORE:
            return NO_NUMBER
        if word == "count":
            return str(count_plans(self.clock, numbers[0]))
        if word == "latest":
            return tell_rows(latest(self.clock, numbers[0]))
        try:
            return tell_rows(plan_at(self.clock, numbers[0], numbers[1]))
        except BadNumber:
            return NO_NUMBER

    def _exchanged(self, wheel):
        """Exchange a wheel and return the answer."""
        if wheel >= len(self.clock[1]):
            return NO_NUMBER
        try:
            self.bench.exchange(wheel)
        except BadStep:
            return "cannot"
        return "done"


def words_of(line):
    """Return the list of the words of a line, none for what is no string."""
    if not isinstance(line, str):
        return []
    return [word for word in line.split(" ") if word]


def is_asked(words):
    """Tell whether words are of a form that is answered, whatever stands in the place of a number."""
    if not words:
        return False
    if words[0] in NUMBERS:
        return len(words) == NUMBERS[words[0]] + 1
    return len(words) == 1 and (words[0] == "back" or words[0] in OF_BENCH or words[0] in OF_CLOCK)
