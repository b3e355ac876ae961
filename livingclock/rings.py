"""Rings of exchanges, each needing the next one later: they show that there is no right plan."""

from livingclock.clocks import all_exchanges, check_clock
from livingclock.earliest import earliest, trail
from livingclock.pushes import is_linked, push_table, pushed_pairs

MOST_PAIRS = 400


def ring(clock):
    """Return a ring of as few pairs as can be, None without one."""
    if earliest(clock) is not None:
        return None
    table = push_table(clock)
    searches = [Search(clock[0], pair) for pair in first_pairs(clock)]
    found = None
    while found is None:
        found = closed_by(searches, table)
    return found


def shows_ring(clock, value):
    """Tell whether a value is what ring may return."""
    shortest = ring(clock)
    if shortest is None:
        return value is None
    return isinstance(value, tuple) and len(value) == len(shortest) and is_round(clock, value)


def is_ring(clock, value):
    """Tell whether a value is a ring of at most 400 pairs."""
    check_clock(clock)
    return isinstance(value, tuple) and 2 <= len(value) <= MOST_PAIRS and is_round(clock, value)


def is_round(clock, value):
    """Tell whether a tuple of at least two things is a ring."""
    if not is_linked(clock, value):
        return False
    exchange, number = value[0]
    last, end = value[-1]
    return 0 <= number < clock[0] and last == exchange and end > number and (end - number) % clock[0] == 0


def first_pairs(clock):
    """Return the list of the pairs (exchange, number) with which a ring may begin."""
    return [(exchange, gap) for exchange in all_exchanges(clock) for gap in clock[3][exchange[0]]]


def closed_by(searches, table):
    """Let each search go a push further and return the first ring that is closed so, None if none is."""
    for search in searches:
        search.widen(table)
        if search.end is not None:
            return trail(search.former, search.end)
    return None


class Search:
    """The search for a ring that begins with a pair, a push more at a time."""

    def __init__(self, period, start):
        self.period = period
        self.start = start
        self.former = {start: None}
        self.greatest = {self.place_of(start): start[1]}
        self.layer = [start]
        self.end = None

    def place_of(self, pair):
        """Return the exchange of a pair and the phase of its number."""
        return (pair[0], pair[1] % self.period)

    def widen(self, table):
        """Go a push further from all pairs that were new at the last push."""
        reached = []
        for pair in self.layer:
            for pushed in pushed_pairs(table, pair):
                if self.is_further(pushed):
                    self.note(pair, pushed)
                    reached.append(pushed)
        self.layer = reached

    def is_further(self, pushed):
        """Tell whether a pair is worth going on from."""
        # From the same place whole rounds further on each ring closes as soon, so what is not further on is left out.
        place = self.place_of(pushed)
        return place not in self.greatest or pushed[1] > self.greatest[place]

    def note(self, pair, pushed):
        """Keep a pair, with the one that pushes it; it closes a ring if the search began at its place."""
        place = self.place_of(pushed)
        self.greatest[place] = pushed[1]
        self.former[pushed] = pair
        if place == self.place_of(self.start):
            self.end = pushed
