"""The texts of clocks and plans, written and read."""

from livingclock.clocks import MOST_EDITION, MOST_EXCHANGES, MOST_PERIOD, MOST_WHEELS, check_clock
from livingclock.errors import BadLine, BadString
from livingclock.plans import MOST_PLANNED, check_plan

# For each kind of line the kinds that can stand behind it; the first line stands behind none.
FOLLOWERS = {
    "": ("period",),
    "period": ("wheel",),
    "wheel": ("wheel", "touch", "need"),
    "touch": ("touch", "need"),
    "need": ("need",),
}
# How many numbers a line of a kind has at least.
LEAST = {"period": 1, "wheel": 1, "touch": 3, "need": 4}
DIGITS = "0123456789"
MOST_DIGITS = 6


def write_clock(clock):
    """Return the text of a clock."""
    check_clock(clock)
    lines = [written("period", (clock[0],))]
    lines.extend([written("wheel", (last,) + phases) for last, phases in zip(clock[1], clock[3])])
    lines.extend([written("touch", touch) for touch in clock[2]])
    lines.extend([written("need", entry) for entry in clock[4]])
    return "\n".join(lines)


def read_clock(text):
    """Return the clock of a text."""
    check_string(text)
    draft = Draft()
    for line, words in full_lines(text):
        place = draft.take(words)
        if place is not None:
            raise BadLine(line, place)
    if not draft.editions:
        raise BadLine(line_behind(text), 1)
    return draft.whole_clock()


def write_plan(clock, plan):
    """Return the text of a plan."""
    check_clock(clock)
    check_plan(clock, plan)
    return "\n".join([written("wheel", ticks) for ticks in plan])


def read_plan(clock, text):
    """Return the plan of a clock that a text tells."""
    check_clock(clock)
    check_string(text)
    plan = []
    for line, words in full_lines(text):
        wheel = len(plan)
        if words[0] != "wheel" or wheel == len(clock[1]):
            raise BadLine(line, 1)
        ticks = leading_ticks(clock, wheel, words)
        if len(ticks) < len(words) - 1 or len(ticks) < clock[1][wheel]:
            raise BadLine(line, len(ticks) + 2)
        plan.append(tuple(ticks))
    if len(plan) < len(clock[1]):
        raise BadLine(line_behind(text), 1)
    return tuple(plan)


def check_string(text):
    """Raise BadString for a value that is no string."""
    if not isinstance(text, str):
        raise BadString("a text is a string")


def written(word, numbers):
    """Return the line of a word and numbers."""
    return " ".join([word] + [str(number) for number in numbers])


def full_lines(text):
    """Return the list of pairs, for each line that isn't void: its number, from 1, and the list of its words."""
    pairs = []
    for place, line in enumerate(text.split("\n")):
        words = [word for word in line.split(" ") if word]
        if words:
            pairs.append((place + 1, words))
    return pairs


def line_behind(text):
    """Return the number of the line behind the last one of a text."""
    return len(text.split("\n")) + 1


def number_of(word):
    """Return the number that a word tells, None if it isn't written as numbers of at most six figures are."""
    if not word or len(word) > MOST_DIGITS or not all(sign in DIGITS for sign in word):
        return None
    if word[0] == "0" and word != "0":
        return None
    return int(word)


def leading_ticks(clock, wheel, words):
    """Return the list of the ticks that the line of a wheel tells, up to the first word that can't stand."""
    ticks = []
    least = 0
    for word in words[1:clock[1][wheel] + 1]:
        tick = number_of(word)
        if tick is None or not least <= tick <= MOST_PLANNED or tick % clock[0] not in clock[3][wheel]:
            break
        ticks.append(tick)
        least = tick + 1
    return ticks


class Draft:
    """The parts of a clock, as far as the lines of its text are read."""

    def __init__(self):
        self.last = ""
        self.period = 0
        self.editions = []
        self.gaps = []
        self.touches = []
        self.book = []

    def whole_clock(self):
        """Return the clock of these parts."""
        return (self.period, tuple(self.editions), tuple(self.touches), tuple(self.gaps), tuple(self.book))

    def take(self, words):
        """Take the line of these words in; return the place, from 1, of the word that is wrong, None if none is."""
        kind = words[0]
        if not self.may_come(kind):
            return 1
        numbers = self.leading_numbers(words)
        fallen = self.place_of_fall(kind, numbers)
        if fallen is not None:
            return fallen
        # A word that can't stand and one that is lacking are both the one behind the numbers that can stand.
        if len(numbers) < len(words) - 1 or lacks_more(kind, numbers):
            return len(numbers) + 2
        self.keep(kind, numbers)
        return None

    def may_come(self, kind):
        """Tell whether a line of a kind can stand behind the lines that are read."""
        if kind not in FOLLOWERS[self.last]:
            return False
        return kind != "wheel" or len(self.editions) < MOST_WHEELS

    def leading_numbers(self, words):
        """Return the list of the numbers behind the first word, up to a word that can't stand."""
        numbers = []
        for word in words[1:]:
            number = number_of(word)
            if number is None or number not in self.choices(words[0], numbers):
                break
            numbers.append(number)
        return numbers

    def choices(self, kind, numbers):
        """Return the list of the numbers that can stand behind some numbers in a line of a kind."""
        if kind == "period":
            return [] if numbers else list(range(1, MOST_PERIOD + 1))
        if kind == "wheel":
            return self.wheel_choices(numbers)
        if kind == "touch":
            return self.touch_choices(numbers)
        return self.need_choices(numbers)

    def wheel_choices(self, numbers):
        """Return the list of the numbers that can stand behind some numbers in the line of a wheel."""
        if not numbers:
            return list(range(min(MOST_EDITION, MOST_EXCHANGES - sum(self.editions)) + 1))
        if len(numbers) == 1:
            return list(range(self.period))
        return list(range(numbers[-1] + 1, self.period))

    def touch_choices(self, numbers):
        """Return the list of the numbers that can stand behind some numbers in the line of a touch."""
        if not numbers:
            return list(range(self.period))
        if len(numbers) == 1:
            return list(range(len(self.editions)))
        if len(numbers) == 2:
            return list(range(numbers[1] + 1, len(self.editions)))
        return []

    def need_choices(self, numbers):
        """Return the list of the numbers that can stand behind some numbers in the line of an entry."""
        if not numbers:
            return list(range(len(self.editions)))
        if len(numbers) == 2:
            return [wheel for wheel in range(len(self.editions)) if wheel != numbers[0]]
        if len(numbers) in (1, 3):
            return list(range(1, self.editions[numbers[-1]] + 1))
        return []

    def place_of_fall(self, kind, numbers):
        """Return the place of the word by which a touch or an entry doesn't rise, None if it does."""
        if kind not in ("touch", "need") or len(numbers) < 3 or kind != self.last:
            return None
        before = self.touches[-1] if kind == "touch" else self.book[-1]
        for place in range(3):
            if numbers[place] != before[place]:
                return place + 2 if numbers[place] < before[place] else None
        return 4

    def keep(self, kind, numbers):
        """Keep what a line of a kind tells."""
        self.last = kind
        if kind == "period":
            self.period = numbers[0]
        elif kind == "wheel":
            self.editions.append(numbers[0])
            self.gaps.append(tuple(numbers[1:]))
        elif kind == "touch":
            self.touches.append(tuple(numbers))
        else:
            self.book.append(tuple(numbers))


def lacks_more(kind, numbers):
    """Tell whether a line of a kind lacks a number behind these."""
    if kind == "wheel" and numbers:
        # A wheel with an exchange has a gap.
        return numbers[0] > 0 and len(numbers) == 1
    return len(numbers) < LEAST[kind]
