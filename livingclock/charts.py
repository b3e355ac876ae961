"""Charts of a clock's first ticks, written and read."""

from livingclock.checks import is_between
from livingclock.clocks import check_clock, touching_at
from livingclock.clocktexts import check_string, line_behind
from livingclock.errors import BadLine, BadNumber
from livingclock.plans import check_plan, do_fit, edition_of

MOST_LINES = 200


def chart(clock, plan, many):
    """Return the chart of a plan, a line for each of so many ticks."""
    check_clock(clock)
    check_plan(clock, plan)
    if not is_between(many, 1, MOST_LINES):
        raise BadNumber("many is an integer from 1 to 200")
    return "\n".join([" ".join(words_at(clock, plan, tick)) for tick in range(many)])


def read_chart(clock, text):
    """Return the plan of which a text is the chart."""
    check_clock(clock)
    check_string(text)
    plan = [[] for _ in clock[1]]
    for tick, line in enumerate(text.split("\n")):
        if tick == MOST_LINES:
            raise BadLine(MOST_LINES + 1, 1)
        words = line.split(" ")
        note_stars(clock, plan, tick, words)
        place = first_other(words, words_at(clock, plan, tick))
        if place is not None:
            raise BadLine(tick + 1, place + 1)
    if [len(ticks) for ticks in plan] != list(clock[1]):
        raise BadLine(line_behind(text), 1)
    return tuple([tuple(ticks) for ticks in plan])


def words_at(clock, plan, tick):
    """Return the list of the words of a tick's line in the chart of a plan."""
    standing = [edition_of(ticks, tick) for ticks in plan]
    words = [f"{tick}:"]
    for edition, ticks in zip(standing, plan):
        words.append(f"{edition}*" if tick in ticks else str(edition))
    for wheel, other in touching_at(clock, tick):
        sign = "-" if do_fit(clock, standing, (wheel, other)) else "!"
        words.append(f"{wheel}{sign}{other}")
    return words


def note_stars(clock, plan, tick, words):
    """Put a tick into the plan for each wheel that has a star in the words of its line, if a star can stand there."""
    for wheel, word in enumerate(words[1:len(plan) + 1]):
        left = len(plan[wheel]) < clock[1][wheel]
        if word.endswith("*") and left and tick % clock[0] in clock[3][wheel]:
            plan[wheel].append(tick)


def first_other(words, others):
    """Return the first place at which two lists of words are unlike, one of them being at its end perhaps."""
    for place, (word, other) in enumerate(zip(words, others)):
        if word != other:
            return place
    if len(words) != len(others):
        return min(len(words), len(others))
    return None
