"""All right plans whose ticks are below a tick: in order, counted, and a way from the earliest to the latest."""

from livingclock.checks import is_between, is_whole
from livingclock.clocks import all_exchanges, check_clock, touch_phases
from livingclock.earliest import first_numbers, lifted_numbers, rows_of, settled
from livingclock.errors import BadNumber, TooMany
from livingclock.plans import check_plan, is_right
from livingclock.pushes import push_table
from livingclock.stairs import stair_at

MOST_BEFORE = 60
MOST_PLANS = 1000


def plans(clock, before):
    """Return the ascending tuple of all right plans ahead."""
    check_before(clock, before)
    family = Family(clock, before)
    spans = family.whole()
    for exchange in family.exchanges:
        parts = []
        for span in spans:
            parts.extend(family.parted(span, exchange))
            # There is at least one plan in each span, and none is in two.
            if len(parts) > MOST_PLANS:
                raise TooMany(MOST_PLANS)
        spans = parts
    return tuple([rows_of(clock, span[0]) for span in spans])


def count_plans(clock, before):
    """Return how many right plans ahead there are."""
    check_before(clock, before)
    family = Family(clock, before)
    return sum([family.many_in(span) for span in family.whole()])


def plan_at(clock, before, number):
    """Return the right plan ahead that has a number in the ascending row of all."""
    check_before(clock, before)
    family = Family(clock, before)
    spans = family.whole()
    if not is_whole(number) or not 0 <= number < sum([family.many_in(span) for span in spans]):
        raise BadNumber("there is no right plan of this number")
    span = spans[0]
    for exchange in family.exchanges:
        span, number = family.narrowed_to(span, exchange, number)
    return rows_of(clock, span[0])


def number_of(clock, before, plan):
    """Return the number of a plan in the ascending row of all right plans ahead, None if it isn't in the row."""
    check_before(clock, before)
    check_plan(clock, plan)
    if not is_ahead(plan, before) or not is_right(clock, plan):
        return None
    family = Family(clock, before)
    span = family.whole()[0]
    number = 0
    for exchange in family.exchanges:
        tick = plan[exchange[0]][exchange[1] - 1]
        if tick > span[0][exchange]:
            number += family.many_in(family.at_most(span, exchange, tick - 1))
        span = family.at_least(family.at_most(span, exchange, tick), exchange, tick)
    return number


def latest(clock, before):
    """Return the right plan ahead in which each exchange is as late as in any, None without one."""
    check_before(clock, before)
    spans = Family(clock, before).whole()
    if not spans:
        return None
    return rows_of(clock, spans[0][1])


def way(clock, before):
    """Return a tuple of right plans ahead, from the earliest to the latest, with none between two neighbours."""
    check_before(clock, before)
    family = Family(clock, before)
    spans = family.whole()
    if not spans:
        return ()
    numbers, highs = spans[0]
    found = [numbers]
    while numbers != highs:
        numbers = family.next_above(numbers, highs)
        found.append(numbers)
    return tuple([rows_of(clock, ticks) for ticks in found])


def check_before(clock, before):
    """Raise the error of a value that is no clock, or of a before that is out of bounds."""
    check_clock(clock)
    if not is_between(before, 1, MOST_BEFORE):
        raise BadNumber("before is an integer from 1 to 60")


def is_ahead(plan, before):
    """Tell whether all ticks of a plan are below a tick."""
    return all([tick < before for ticks in plan for tick in ticks])


class Family:
    """The right plans ahead of a tick.

    A span is a pair of dicts, from each exchange to a tick: a least plan and a greatest one. It holds all right plans
    between the two. By point 7 all plans of a span that have an exchange at some tick or later, or at some tick or
    earlier, are a span again, if there are any.
    """

    def __init__(self, clock, before):
        self.clock = clock
        self.before = before
        self.exchanges = all_exchanges(clock)
        self.table = push_table(clock)
        self.ticks = {
            exchange: [tick for tick in range(before) if tick % clock[0] in clock[3][exchange[0]]]
            for exchange in self.exchanges
        }
        self.needs = {exchange: [] for exchange in self.exchanges}
        for other in self.exchanges:
            for exchange, row in self.table[other]:
                self.needs[exchange].append((other, row))
        self.known = {}

    def whole(self):
        """Return the list of the span of all right plans ahead, an empty list without any."""
        lows = settled(self.clock, first_numbers(self.clock))
        if lows is None or any([tick >= self.before for tick in lows.values()]):
            return []
        highs = {exchange: self.ticks[exchange][-1] for exchange in self.exchanges}
        return [(lows, self.lowered(highs, list(self.exchanges)))]

    def lowered(self, highs, moved):
        """Return the dict of the greatest right plan that is nowhere above the ticks; there must be one.

        Moved is a list of exchanges: only they, and those that are lowered for them, can lower others.
        """
        numbers = {exchange: highs[exchange] for exchange in highs}
        while moved:
            fallen = []
            for exchange in moved:
                for other, row in self.needs[exchange]:
                    if stair_at(row, numbers[other]) > numbers[exchange]:
                        able = [tick for tick in self.ticks[other] if stair_at(row, tick) <= numbers[exchange]]
                        numbers[other] = able[-1]
                        fallen.append(other)
            moved = fallen
        return numbers

    def at_most(self, span, exchange, tick):
        """Return the span of the plans of a span that have an exchange at a tick or earlier; there must be some."""
        lows, highs = span
        if highs[exchange] <= tick:
            return span
        most = {other: highs[other] for other in highs}
        most[exchange] = [gap for gap in self.ticks[exchange] if gap <= tick][-1]
        return (lows, self.lowered(most, [exchange]))

    def at_least(self, span, exchange, tick):
        """Return the span of the plans of a span that have an exchange at a tick or later; there must be some."""
        lows, highs = span
        if lows[exchange] >= tick:
            return span
        return (self.lifted(lows, exchange, tick), highs)

    def lifted(self, lows, exchange, tick):
        """Return the least right plan that is nowhere below a right one and has an exchange at a tick or later."""
        least = {other: lows[other] for other in lows}
        least[exchange] = [gap for gap in self.ticks[exchange] if gap >= tick][0]
        return lifted_numbers(self.table, least, [exchange], self.before)

    def parted(self, span, exchange):
        """Return the ascending list of the spans of a span in which an exchange has one tick."""
        parts = []
        while span[0][exchange] < span[1][exchange]:
            tick = span[0][exchange]
            parts.append(self.at_most(span, exchange, tick))
            span = self.at_least(span, exchange, tick + 1)
        return parts + [span]

    def next_above(self, numbers, highs):
        """Return the dict of a plan that lies next above one, and not above the greatest one."""
        found = []
        for exchange in self.exchanges:
            if numbers[exchange] < highs[exchange]:
                found.append(self.lifted(numbers, exchange, numbers[exchange] + 1))
        # Each plan above has one of these below it or is it, and of these none lies below one of the least sum.
        return min(found, key=lambda ticks: sum(list(ticks.values())))

    def narrowed_to(self, span, exchange, number):
        """Return the span with the tick that an exchange has in the plan of a number, and the plan's number in it."""
        able = [tick for tick in self.ticks[exchange] if span[0][exchange] <= tick <= span[1][exchange]]
        first, last = 0, len(able) - 1
        while first < last:
            middle = (first + last) // 2
            if self.many_in(self.at_most(span, exchange, able[middle])) > number:
                last = middle
            else:
                first = middle + 1
        if first > 0:
            number -= self.many_in(self.at_most(span, exchange, able[first - 1]))
        span = self.at_most(span, exchange, able[first])
        return (self.at_least(span, exchange, able[first]), number)

    def many_in(self, span):
        """Return how many right plans a span holds."""
        many = 1
        for lot in self.lots(span):
            place = tuple([(exchange, span[0][exchange], span[1][exchange]) for exchange in lot])
            if place not in self.known:
                self.known[place] = Lot(self, span, lot).many_plans()
            many = many * self.known[place]
        return many

    def lots(self, span):
        """Return the list of lots of exchanges such that in the span none keeps one of another lot from any tick."""
        heads = {exchange: exchange for exchange in self.exchanges}
        for pair in self.binding(span, self.exchanges):
            one, other = heads[pair[0]], heads[pair[1]]
            for exchange in self.exchanges:
                if heads[exchange] == other:
                    heads[exchange] = one
        found = {}
        for exchange in self.exchanges:
            found.setdefault(heads[exchange], []).append(exchange)
        return list(found.values())

    def binding(self, span, lot):
        """Return the list of the pairs of exchanges of a lot of which the second can push the first in a span."""
        lows, highs = span
        return [
            (exchange, other) for exchange in lot for other, row in self.needs[exchange]
            if other in lot and stair_at(row, highs[other]) > lows[exchange]
        ]


class Lot:
    """A lot of exchanges of a family, to be counted in a span: in how many ways they can have their ticks."""

    def __init__(self, family, span, exchanges):
        self.family = family
        self.exchanges = exchanges
        self.able = {
            exchange: [tick for tick in family.ticks[exchange] if span[0][exchange] <= tick <= span[1][exchange]]
            for exchange in exchanges
        }
        self.pairs = family.binding(span, exchanges)
        self.bits = {exchange: 1 << place for place, exchange in enumerate(exchanges)}

    def many_plans(self):
        """Return in how many ways the exchanges can have ticks of the span."""
        if len(self.exchanges) == 1:
            return len(self.able[self.exchanges[0]])
        order, cost = self.order_and_cost()
        # Tick by tick few standings may be met where the other way is long; this is left if it gets longer itself.
        many = self.swept(cost // 4)
        if many is None:
            return self.joined_up(order)
        return many

    def swept(self, most):
        """Return how many ways there are, by going through the ticks; None if more than so much work is needed."""
        states = {0: 1}
        work = 0
        for tick in range(self.family.before):
            # Of one wheel, the later exchange is tried first: it needs that the other one was done before this tick.
            left = [exchange for exchange in self.exchanges[::-1] if tick in self.able[exchange]]
            pairs = self.pairs_at(tick)
            states = self.kept(states, [pair for pair in pairs if not is_among(pair, left)])
            while left:
                exchange = left.pop(0)
                states = self.grown(states, exchange, tick)
                # A pair is asked as soon as nothing more can be done for it at this tick.
                ready = [pair for pair in pairs if exchange in pair and not is_among(pair, left)]
                states = self.kept(states, ready)
                work += len(states)
            if work > most:
                return None
        return states[sum(list(self.bits.values()))]

    def pairs_at(self, tick):
        """Return the list of the pairs, the first needing the second, of wheels that touch at a tick."""
        clock = self.family.clock
        phase = tick % clock[0]
        return [pair for pair in self.pairs if phase in touch_phases(clock, pair[0][0], pair[1][0])]

    def grown(self, states, exchange, tick):
        """Return a dict from each set of exchanges that are done to its ways, with one more that is done or waits."""
        bit = self.bits[exchange]
        former = (exchange[0], exchange[1] - 1)
        wanted = self.bits[former] if (exchange, former) in self.pairs else 0
        more = {}
        for done, many in states.items():
            if done & bit or tick < self.able[exchange][-1]:
                more[done] = more.get(done, 0) + many
            if not done & bit and done & wanted == wanted:
                more[done + bit] = more.get(done + bit, 0) + many
        return more

    def kept(self, states, pairs):
        """Return the dict of those of the sets of done exchanges that have what each first one of the pairs needs."""
        tests = [(self.bits[exchange], self.bits[other]) for exchange, other in pairs]
        for bit, other in tests:
            states = {done: states[done] for done in states if done & other or not done & bit}
        return states

    def order_and_cost(self):
        """Return the list of the exchanges in the order in which joined_up takes them, and how long that is at most."""
        links = {exchange: {} for exchange in self.exchanges}
        for exchange, other in self.pairs:
            links[exchange][other] = True
            links[other][exchange] = True
        order = []
        cost = 0
        while len(order) < len(self.exchanges):
            left = [exchange for exchange in self.exchanges if exchange not in order]
            many, exchange = min([(self.many_beside(links, exchange), exchange) for exchange in left])
            order.append(exchange)
            cost += many
            near = list(links[exchange])
            for one in near:
                del links[one][exchange]
                links[one].update({other: True for other in near if other != one})
        return order, cost

    def many_beside(self, links, exchange):
        """Return in how many ways an exchange and those that are linked with it can have ticks, each by itself."""
        many = len(self.able[exchange])
        for other in links[exchange]:
            many = many * len(self.able[other])
        return many

    def joined_up(self, order):
        """Return how many ways there are, by taking away an exchange after the other."""
        tables = [self.table_of(exchange, other) for exchange, other in self.pairs]
        for exchange in order:
            whole = ((), {(): 1})
            for table in tables:
                if exchange in table[0]:
                    whole = joined(whole, table)
            tables = [table for table in tables if exchange not in table[0]]
            tables.append(without(whole, exchange))
        many = 1
        for _, rows in tables:
            many = many * rows[()]
        return many

    def table_of(self, exchange, other):
        """Return the table of the ticks that an exchange and one that it leans on can have together."""
        row = [row for former, row in self.family.needs[exchange] if former == other][0]
        rows = {}
        for tick in self.able[other]:
            for later in self.able[exchange]:
                if later >= stair_at(row, tick):
                    rows[(later, tick)] = 1
        return ((exchange, other), rows)


def joined(one, other):
    """Return the table of what two tables allow together.

    A table is a pair: a tuple of exchanges, and a dict from tuples of their ticks to numbers of ways.
    """
    shared = [exchange for exchange in other[0] if exchange in one[0]]
    more = [exchange for exchange in other[0] if exchange not in one[0]]
    firsts, lasts = places_in(other[0], shared), places_in(other[0], more)
    endings = {}
    for ticks, many in other[1].items():
        ending = tuple([ticks[place] for place in lasts])
        endings.setdefault(tuple([ticks[place] for place in firsts]), []).append((ending, many))
    firsts = places_in(one[0], shared)
    rows = {}
    for ticks, many in one[1].items():
        for ending, times in endings.get(tuple([ticks[place] for place in firsts]), []):
            rows[ticks + ending] = many * times
    return (one[0] + tuple(more), rows)


def without(table, exchange):
    """Return a table without an exchange, its ways added up."""
    at = table[0].index(exchange)
    rows = {}
    for ticks, many in table[1].items():
        left = ticks[:at] + ticks[at + 1:]
        rows[left] = rows.get(left, 0) + many
    return (table[0][:at] + table[0][at + 1:], rows)


def places_in(scope, exchanges):
    """Return the list of the places of some exchanges in a scope."""
    return [scope.index(exchange) for exchange in exchanges]


def is_among(pair, things):
    """Tell whether one of a pair is among some things."""
    return pair[0] in things or pair[1] in things
