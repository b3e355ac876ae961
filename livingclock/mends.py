"""What to mend in a clock without a right plan: the fewest gaps to add to it, or the fewest entries to take away."""

from livingclock.checks import is_between, is_rising, is_tuple_of, is_whole
from livingclock.clocks import check_clock, first_from, first_gap, least_needed, touch_phases
from livingclock.earliest import earliest
from livingclock.pushes import is_pair
from livingclock.rings import MOST_PAIRS, ring

MOST_NUMBER = 10 ** 6
# More than any clock has: a clause without a choice can't be broken.
MOST_ITEMS = 1000
# What counts as 1 where shares are counted: it has most small divisors.
WHOLE = 720720


def fewest_gaps(clock):
    """Return the first shortest lot of gaps to add so that there is a right plan, and bars that show that it is."""
    check_clock(clock)
    mend = GapMend(clock)
    bars = bars_left(mend, mend.things)
    if bars:
        return (None, tuple(bars))
    return fewest(mend)


def shows_fewest_gaps(clock, value):
    """Tell whether a value is what fewest_gaps may return."""
    check_clock(clock)
    return is_shown(GapMend(clock), value)


def fewest_entries(clock):
    """Return the first shortest lot of entries to take away so that there is a right plan, and bars that show it."""
    check_clock(clock)
    return fewest(EntryMend(clock))


def shows_fewest_entries(clock, value):
    """Tell whether a value is what fewest_entries may return."""
    check_clock(clock)
    return is_shown(EntryMend(clock), value)


def is_bar(clock, value):
    """Tell whether a value is a bar of the clock."""
    if not isinstance(value, tuple) or not 2 <= len(value) <= MOST_PAIRS:
        return False
    if not all([is_pair(clock, pair) and is_between(pair[1], -MOST_NUMBER, MOST_NUMBER) for pair in value]):
        return False
    exchange, number = value[0]
    last, end = value[-1]
    if last != exchange or end <= number or (end - number) % clock[0] != 0:
        return False
    return all([is_barred(clock, former, pair) for former, pair in zip(value, value[1:])])


def is_barred(clock, former, pair):
    """Tell whether a pair can stand behind another one in a bar."""
    (wheel, edition), number = pair
    other, least = former[0]
    if wheel == other and edition != least + 1:
        return False
    if wheel != other:
        if not touch_phases(clock, wheel, other) or least_needed(clock, wheel, edition, other) < least:
            return False
    return number <= first_gap(clock, wheel, look_from(clock, former, wheel))


def look_from(clock, former, wheel):
    """Return the number from which the push of a pair on an exchange of a wheel begins to look for a gap."""
    number = former[1]
    phases = touch_phases(clock, wheel, former[0][0])
    if not phases:
        return number + 1
    return number - min([(number - 1 - phase) % clock[0] for phase in phases])


def eased(clock, bar):
    """Return a bar with the same exchanges, its numbers as low as they can be without asking more of any gaps."""
    exchanges = [exchange for exchange, _ in bar]
    numbers = [number for _, number in bar]
    # One round is enough; what is lowered at the end may let more be lowered the second time.
    for _ in range(2):
        numbers[-1] = numbers[0] + clock[0]
        for place in range(len(bar) - 2, -1, -1):
            wheel = exchanges[place + 1][0]
            start = look_from(clock, (exchanges[place], numbers[place]), wheel)
            numbers[place] = least_looking(clock, exchanges[place][0], wheel, min(start, numbers[place + 1]))
    numbers[-1] = numbers[0] + clock[0]
    return tuple(zip(exchanges, numbers))


def least_looking(clock, wheel, other, goal):
    """Return the least number of an exchange of a wheel the push of which looks on the other wheel from a goal on."""
    phases = touch_phases(clock, wheel, other)
    if not phases:
        return goal - 1
    return first_from(clock, phases, goal - 1) + 1


class GapMend:
    """The gaps that can be added to a clock."""

    def __init__(self, clock):
        self.clock = clock
        self.things = tuple([
            (wheel, phase) for wheel, phases in enumerate(clock[3]) if clock[1][wheel] > 0
            for phase in range(clock[0]) if phase not in phases
        ])

    def mended(self, lot):
        """Return the clock with a lot of gaps added."""
        period, editions, touches, gaps, book = self.clock
        more = [[phase for wheel, phase in lot if wheel == place] for place in range(len(gaps))]
        added = tuple([tuple(sorted(list(phases) + news)) for phases, news in zip(gaps, more)])
        return (period, editions, touches, added, book)

    def choices(self, bar):
        """Return the list of the lists of gaps of which one must be added, all of it, to leave a bar no bar."""
        found = {}
        for former, pair in zip(bar, bar[1:]):
            wheel = pair[0][0]
            for number in range(look_from(self.clock, former, wheel), pair[1]):
                found[(wheel, number % self.clock[0])] = True
        return [[item] for item in found]


class EntryMend:
    """The entries that can be taken away from a clock's book."""

    def __init__(self, clock):
        self.clock = clock
        self.things = clock[4]

    def mended(self, lot):
        """Return the clock without a lot of entries."""
        period, editions, touches, gaps, book = self.clock
        return (period, editions, touches, gaps, tuple(entry for entry in book if entry not in lot))

    def choices(self, bar):
        """Return the list of the lists of entries of which one must be away, all of it, to leave a bar no bar."""
        found = []
        for former, pair in zip(bar, bar[1:]):
            wheel, edition = pair[0]
            other, least = former[0]
            if wheel != other:
                found.append([
                    entry for entry in self.things
                    if (entry[0], entry[2]) == (wheel, other) and entry[1] <= edition and entry[3] >= least
                ])
        return found


def bars_left(mend, lot):
    """Return a list of bars that a lot leaves bars; no two of them are broken by the same item."""
    bars = []
    wide = list(lot)
    found = ring(mend.mended(wide))
    while found is not None:
        bars.append(eased(mend.clock, found))
        more = [item for choice in mend.choices(bars[-1]) for item in choice if item not in wide]
        if not more:
            # Nothing can break this one.
            return bars
        wide = wide + more
        found = ring(mend.mended(wide))
    return bars


def fewest(mend):
    """Return the pair of the first shortest lot with which there is a right plan and the bars that show that it is."""
    bars = []
    lot = ()
    more = bars_left(mend, lot)
    while more:
        bars.extend(more)
        lot = lot_of(mend, first_breaking([clause_of(mend, bar) for bar in bars]))
        more = bars_left(mend, lot)
    return (lot, tuple(bars))


def first_enough(things, is_enough):
    """Return the first of the shortest lots of things that are enough, None if not even all are.

    Things is an ascending tuple; what is enough is enough with more things, too.
    """
    clauses = []
    lot = ()
    while not is_enough(lot):
        wide = list(lot)
        for thing in things:
            if thing not in wide and not is_enough(tuple(sorted(wide + [thing]))):
                wide.append(thing)
        # A lot without any of the things that are left out is not enough.
        clauses.append([1 << place for place, thing in enumerate(things) if thing not in wide])
        if not clauses[-1]:
            return None
        chosen = first_breaking(clauses)
        lot = tuple([thing for place, thing in enumerate(things) if chosen >> place & 1])
    return lot


def is_shown(mend, value):
    """Tell whether a value is a pair of the first shortest lot and bars that show that it is."""
    if not is_tuple_of(value, 2):
        return False
    lot, bars = value
    if not isinstance(bars, tuple) or not all([is_bar(mend.clock, bar) for bar in bars]):
        return False
    clauses = [clause_of(mend, bar) for bar in bars]
    if lot is None:
        return [] in clauses
    if not is_lot(mend, lot) or earliest(mend.mended(lot)) is None:
        return False
    return lot_of(mend, first_breaking(clauses)) == lot


def is_lot(mend, value):
    """Tell whether a value is an ascending tuple of items."""
    if not isinstance(value, tuple) or not all([is_item(mend, item) for item in value]):
        return False
    return is_rising(value)


def is_item(mend, value):
    """Tell whether a value is an item of a lot."""
    return isinstance(value, tuple) and all([is_whole(number) for number in value]) and value in mend.things


def clause_of(mend, bar):
    """Return the clause of a bar: the list of the choices that break it, each an integer with a bit for each item."""
    bits = {item: 1 << place for place, item in enumerate(mend.things)}
    return [sum([bits[item] for item in choice]) for choice in mend.choices(bar)]


def lot_of(mend, chosen):
    """Return the tuple of the items whose bits are in an integer."""
    return tuple([item for place, item in enumerate(mend.things) if chosen >> place & 1])


def first_breaking(clauses):
    """Return the first of the shortest lots with a choice of each clause, as an integer with a bit for each item."""
    # What is first in each group is first in all of them together, for they share no items.
    return sum([first_of_group(group) for group in groups_of(clauses)])


def groups_of(clauses):
    """Return the list of lists of clauses such that no clauses of two groups share an item."""
    groups = []
    for clause in clauses:
        joined = [clause]
        others = []
        for group in groups:
            if items_of([clause]) & items_of(group):
                joined = group + joined
            else:
                others.append(group)
        groups = others + [joined]
    return groups


def items_of(clauses):
    """Return the integer with the bits of all items in some clauses."""
    bits = 0
    for clause in clauses:
        for choice in clause:
            bits = bits | choice
    return bits


def first_of_group(clauses):
    """Return what first_breaking does, by a search through all items."""
    size = least_more(clauses)
    found = breaking(clauses, 0, 0, size)
    while found is None:
        size += 1
        found = breaking(clauses, 0, 0, size)
    chosen = 0
    barred = 0
    bit = 1
    while chosen != found:
        if not found & bit and items_of(clauses) & bit:
            other = breaking(clauses, chosen | bit, barred, size - many_bits(chosen) - 1)
            if other is not None:
                found = other
        if found & bit:
            chosen = chosen | bit
        else:
            barred = barred | bit
        bit = bit * 2
    return chosen


def breaking(clauses, chosen, barred, most):
    """Return the bits of chosen items and at most so many more, none of them barred, with a choice of each clause.

    None if there are no such items.
    """
    left = []
    for clause in clauses:
        choices = [choice & ~chosen for choice in clause if not choice & barred]
        if 0 not in choices:
            left.append(choices)
    if not left:
        return chosen
    if least_more(left) > most:
        return None
    left = with_best_choices(without_loose(left))
    for choice in min(left, key=len):
        if many_bits(choice) <= most:
            found = breaking(left, chosen | choice, barred, most - many_bits(choice))
            if found is not None:
                return found
        if many_bits(choice) == 1:
            # All ways with this item are tried.
            barred = barred | choice
    return None


def without_loose(clauses):
    """Return the clauses without those that have all choices of another one."""
    kept = []
    for clause in sorted(clauses, key=len):
        if not any([all([choice in clause for choice in other]) for other in kept]):
            kept.append(clause)
    return kept


def with_best_choices(clauses):
    """Return the clauses without the items for which another item can stand, as it is a choice wherever they are."""
    places = {}
    for place, clause in enumerate(clauses):
        for choice in clause:
            places[choice] = places.get(choice, 0) | 1 << place
    mixed = items_of([[choice for choice in places if many_bits(choice) > 1]])
    kept = {}
    for choice in sorted(list(places), key=lambda bits: -many_bits(places[bits])):
        others = [other for other in kept if many_bits(other) == 1 and not places[choice] & ~places[other]]
        if not others or many_bits(choice) > 1 or choice & mixed:
            kept[choice] = True
    return [[choice for choice in clause if choice in kept] for clause in clauses]


def least_more(clauses):
    """Return how many items clauses want at least, as far as it can be seen at once."""
    lots = [items_of([clause]) for clause in clauses]
    needs = [min([many_bits(choice) for choice in clause], default=MOST_ITEMS) for clause in clauses]
    sizes = [len(clause) for clause in clauses]
    neighbours = [len([other for other in lots if lot & other]) for lot in lots]
    return max(packed(lots, needs, sizes), packed(lots, needs, neighbours), spread(lots, needs))


def packed(lots, needs, ranks):
    """Return what lots need together, of which no two share an item, those of the least ranks being taken first."""
    bits = 0
    many = 0
    for _, place in sorted([(rank, place) for place, rank in enumerate(ranks)]):
        if not lots[place] & bits:
            bits = bits | lots[place]
            many += needs[place]
    return many


def spread(lots, needs):
    """Return what lots need together, each counting for a share, such that all shares of one item are at most 1."""
    many = {}
    for lot in lots:
        for bit in bits_of(lot):
            many[bit] = many.get(bit, 0) + 1
    total = 0
    for lot, need in zip(lots, needs):
        total += need * (WHOLE // max([many[bit] for bit in bits_of(lot)], default=1))
    return (total + WHOLE - 1) // WHOLE


def bits_of(number):
    """Return the list of the bits of an integer, each as an integer."""
    found = []
    while number:
        found.append(number & -number)
        number = number & (number - 1)
    return found


def many_bits(number):
    """Return how many bits an integer has."""
    return len(bits_of(number))
