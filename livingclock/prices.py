"""What plans cost, a right one that costs least, and the paper that shows that none costs less."""

from livingclock.checks import is_between, is_tuple_of, is_whole
from livingclock.clocks import all_exchanges
from livingclock.earliest import rows_of
from livingclock.errors import BadPlan, BadPrices
from livingclock.lattices import Family, check_before, is_ahead
from livingclock.plans import check_plan, is_plan, is_right
from livingclock.pushes import is_pair, pushed_pairs

MOST_PRICE = 10 ** 6
MOST_AMOUNT = 10 ** 9


def price(clock, before, prices, plan):
    """Return what a plan that is ahead costs."""
    check_before(clock, before)
    check_prices(clock, before, prices)
    check_plan(clock, plan)
    if not is_ahead(plan, before):
        raise BadPlan(None)
    return price_of(prices, plan)


def cheapest(clock, before, prices):
    """Return a right plan ahead of least price, its price and a paper that shows it; None without a plan."""
    check_before(clock, before)
    check_prices(clock, before, prices)
    family = Family(clock, before)
    spans = family.whole()
    if not spans:
        return None
    market = Market(family, spans[0], prices)
    flow = market.greatest_flow()
    plan = market.plan_by(flow)
    return (plan, price_of(prices, plan), market.paper_by(flow))


def shows_cheapest(clock, before, prices, value):
    """Tell whether a value is what cheapest may return."""
    check_before(clock, before)
    check_prices(clock, before, prices)
    family = Family(clock, before)
    spans = family.whole()
    if not spans:
        return value is None
    if not is_tuple_of(value, 3):
        return False
    plan, told, paper = value
    if not is_plan(clock, plan) or not is_ahead(plan, before) or not is_right(clock, plan):
        return False
    if not is_whole(told) or told != price_of(prices, plan):
        return False
    market = Market(family, spans[0], prices)
    return market.is_paper(paper) and market.price_shown_by(paper) == told


def check_prices(clock, before, prices):
    """Raise BadPrices for a value that isn't a tuple of a row of prices for each exchange."""
    if not is_tuple_of(prices, sum(clock[1])) or not all([is_price_row(before, row) for row in prices]):
        raise BadPrices("prices are a tuple, for each exchange, of a price for each tick")


def is_price_row(before, value):
    """Tell whether a value can be the prices of an exchange."""
    return is_tuple_of(value, before) and all([is_between(cost, 0, MOST_PRICE) for cost in value])


def price_of(prices, plan):
    """Return what price does, for arguments that are known to be right."""
    ticks = [tick for row in plan for tick in row]
    return sum([costs[tick] for costs, tick in zip(prices, ticks)])


class Market:
    """The steps from the earliest right plan ahead on, what they gain and which ones they want."""

    def __init__(self, family, span, prices):
        self.family = family
        self.lows = span[0]
        self.prices = {exchange: costs for exchange, costs in zip(all_exchanges(family.clock), prices)}
        self.steps = [
            (exchange, tick) for exchange in family.exchanges for tick in family.ticks[exchange]
            if span[0][exchange] < tick <= span[1][exchange]
        ]
        self.places = {step: place for place, step in enumerate(self.steps)}
        self.gains = [self.gain(step) for step in self.steps]
        self.wants = [self.wanted_by(step) for step in self.steps]

    def gap_before(self, step):
        """Return the gap before the one of a step."""
        return [gap for gap in self.family.ticks[step[0]] if gap < step[1]][-1]

    def gain(self, step):
        """Return what a plan costs more with a step than without."""
        costs = self.prices[step[0]]
        return costs[step[1]] - costs[self.gap_before(step)]

    def wanted_by(self, step):
        """Return the list of the places of the steps that a step wants."""
        pairs = [(step[0], self.gap_before(step))] + pushed_pairs(self.family.table, step)
        return [self.places[pair] for pair in pairs if pair in self.places]

    def greatest_flow(self):
        """Return the greatest flow of what steps save, by the steps that are wanted, to those that cost more."""
        flow = Flow(len(self.steps))
        for place, gain in enumerate(self.gains):
            if gain < 0:
                flow.connect(flow.source, place, -gain)
            elif gain > 0:
                flow.connect(place, flow.sink, gain)
            for wanted in self.wants[place]:
                # All that is saved together is less than this.
                flow.connect(place, wanted, MOST_AMOUNT)
        flow.fill()
        return flow

    def plan_by(self, flow):
        """Return the plan that takes the steps to which more could flow from the source of a greatest flow."""
        levels = flow.levels()
        numbers = {exchange: self.lows[exchange] for exchange in self.lows}
        for place, step in enumerate(self.steps):
            if levels[place] is not None:
                numbers[step[0]] = max(numbers[step[0]], step[1])
        return rows_of(self.family.clock, numbers)

    def paper_by(self, flow):
        """Return the paper of a greatest flow."""
        triples = []
        for place, step in enumerate(self.steps):
            for wanted in self.wants[place]:
                amount = flow.amount(place, wanted, MOST_AMOUNT)
                if amount > 0:
                    triples.append((step, self.steps[wanted], amount))
        return tuple(triples)

    def is_paper(self, value):
        """Tell whether a value is a tuple of triples (step, step that it wants, amount)."""
        return isinstance(value, tuple) and all([self.is_triple(triple) for triple in value])

    def is_triple(self, value):
        """Tell whether a value is a triple (step, step that it wants, amount)."""
        if not is_tuple_of(value, 3) or not is_between(value[2], 1, MOST_AMOUNT):
            return False
        step, wanted = value[:2]
        if not is_pair(self.family.clock, step) or not is_pair(self.family.clock, wanted):
            return False
        if step not in self.places or wanted not in self.places:
            return False
        return self.places[wanted] in self.wants[self.places[step]]

    def price_shown_by(self, paper):
        """Return the price below which, by a paper, no right plan ahead is."""
        gains = list(self.gains)
        for step, wanted, amount in paper:
            gains[self.places[step]] += amount
            gains[self.places[wanted]] -= amount
        start = sum([self.prices[exchange][tick] for exchange, tick in self.lows.items()])
        return start + sum([min(0, gain) for gain in gains])


class Flow:
    """A flow between places, numbered from 0, from a source to a sink."""

    def __init__(self, many):
        self.source = many
        self.sink = many + 1
        # For each place a dict from the others to what more can flow to them.
        self.room = [{} for _ in range(many + 2)]

    def connect(self, place, other, most):
        """Let so much flow from a place to another one."""
        self.room[place][other] = most
        self.room[other].setdefault(place, 0)

    def amount(self, place, other, most):
        """Return what flows to a place from one that was connected with it for so much; below 0 if it flows back."""
        return most - self.room[place][other]

    def fill(self):
        """Let as much flow as can: always all that can on ways of the fewest places."""
        levels = self.levels()
        while levels[self.sink] is not None:
            self.fill_by(levels)
            levels = self.levels()

    def levels(self):
        """Return the list, for each place, of how far it is from the source by ways with room, None without one."""
        levels = [None] * len(self.room)
        levels[self.source] = 0
        layer = [self.source]
        while layer:
            reached = []
            for place in layer:
                for other, room in self.room[place].items():
                    if room > 0 and levels[other] is None:
                        levels[other] = levels[place] + 1
                        reached.append(other)
            layer = reached
        return levels

    def fill_by(self, levels):
        """Let flow what can by ways each place of which is a level further than the one before it."""
        left = [list(rooms) for rooms in self.room]
        path = [self.source]
        while path:
            place = path[-1]
            if place == self.sink:
                self.push_along(path)
                path = [self.source]
            elif not left[place]:
                path.pop()
                if path:
                    left[path[-1]].pop()
            else:
                other = left[place][-1]
                if self.room[place][other] > 0 and levels[other] == levels[place] + 1:
                    path.append(other)
                else:
                    left[place].pop()

    def push_along(self, path):
        """Let as much flow along a path as it has room for."""
        pairs = list(zip(path, path[1:]))
        amount = min([self.room[place][other] for place, other in pairs])
        for place, other in pairs:
            self.room[place][other] -= amount
            self.room[other][place] += amount
