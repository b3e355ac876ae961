"""News: what is seen of a plan where wheels touch, and what it tells of the plan."""

from livingclock.checks import check_tick, is_between, is_rising, is_tuple_of
from livingclock.clocks import is_touch
from livingclock.earliest import rows_of
from livingclock.errors import BadNews, BadPlan, BadWatch, TooMany
from livingclock.lattices import Family, check_before, is_ahead
from livingclock.mends import first_enough
from livingclock.plans import check_plan, edition_of, is_right

MOST_TOUCHES = 12


def news(clock, before, plan, watch):
    """Return the ascending tuple of the reports of a plan, of all ticks below at which wheels of the watch touch."""
    check_before(clock, before)
    check_plan(clock, plan)
    if not is_watch(clock, watch):
        raise BadWatch("a watch is an ascending tuple of touches of the clock")
    return news_of(clock, before, plan, watch)


def fitting(clock, before, news):
    """Return the earliest and the latest of the right plans ahead that fit the news, None if none fits."""
    check_news(clock, before, news)
    return bounds(clock, before, news)


def count_fitting(clock, before, news):
    """Return how many right plans ahead fit the news."""
    check_news(clock, before, news)
    family = Family(clock, before)
    return sum([family.many_in(span) for span in spans_of(family, news)])


def sure(clock, before, news, tick):
    """Return, for each wheel, its least and its greatest edition at a tick in plans that fit; None if none fits."""
    check_news(clock, before, news)
    check_tick(tick, 0)
    pair = bounds(clock, before, news)
    if pair is None:
        return None
    # All plans that fit lie between the two: where exchanges are latest, editions are least.
    return tuple([(edition_of(late, tick), edition_of(early, tick)) for early, late in zip(pair[0], pair[1])])


def fewest_watched(clock, before, plan):
    """Return the first of the shortest watches whose news of a plan no other one fits, None if all tell too little."""
    check_before(clock, before)
    check_plan(clock, plan)
    if not is_ahead(plan, before) or not is_right(clock, plan):
        raise BadPlan(None)
    if len(clock[2]) > MOST_TOUCHES:
        raise TooMany(MOST_TOUCHES)
    family = Family(clock, before)
    return first_enough(clock[2], lambda watch: is_told(family, plan, watch))


def check_news(clock, before, told):
    """Raise the error of the first argument that is no clock, no number to be ahead of or no news."""
    check_before(clock, before)
    if not isinstance(told, tuple) or not all([is_report(clock, before, report) for report in told]):
        raise BadNews("news are a tuple of reports")
    if not is_rising([report[:3] for report in told]):
        raise BadNews("reports are ascending and not alike in their first three parts")


def is_report(clock, before, value):
    """Tell whether a value is a report (tick, i, j, edition of i, edition of j) of wheels that touch at the tick."""
    if not is_tuple_of(value, 5) or not is_between(value[0], 0, before - 1):
        return False
    tick, wheel, other, edition, twin = value
    if not is_touch(clock[0], clock[1], (0, wheel, other)) or (tick % clock[0], wheel, other) not in clock[2]:
        return False
    return is_between(edition, 0, clock[1][wheel]) and is_between(twin, 0, clock[1][other])


def is_watch(clock, value):
    """Tell whether a value is an ascending tuple of touches of the clock."""
    if not isinstance(value, tuple) or not all([is_touch(clock[0], clock[1], touch) for touch in value]):
        return False
    return all([touch in clock[2] for touch in value]) and is_rising(value)


def news_of(clock, before, plan, watch):
    """Return what news does, for arguments that are known to be right."""
    reports = [
        (tick, i, j, edition_of(plan[i], tick), edition_of(plan[j], tick))
        for phase, i, j in watch for tick in range(phase, before, clock[0])
    ]
    return tuple(sorted(reports))


def bounds(clock, before, told):
    """Return what fitting does, for arguments that are known to be right."""
    spans = spans_of(Family(clock, before), told)
    if not spans:
        return None
    lows, highs = spans[0]
    return (rows_of(clock, lows), rows_of(clock, highs))


def spans_of(family, told):
    """Return the list of the span of the right plans ahead that fit news, an empty list if none fits."""
    spans = family.whole()
    if not spans:
        return []
    span = spans[0]
    for exchange, tick in soonest(family.clock, told).items():
        if span[1][exchange] < tick:
            return []
        span = family.at_least(span, exchange, tick)
    for exchange, tick in latest_by(told).items():
        if span[0][exchange] > tick:
            return []
        span = family.at_most(span, exchange, tick)
    return [span]


def soonest(clock, told):
    """Return a dict from exchanges to the least ticks that they can have if they fit news."""
    least = {}
    for wheel, tick, edition in sights(told):
        if edition < clock[1][wheel]:
            # News are ascending: of those that tell of an exchange the last one tells most.
            least[(wheel, edition + 1)] = tick + 1
    return least


def latest_by(told):
    """Return a dict from exchanges to the greatest ticks that they can have if they fit news."""
    most = {}
    for wheel, tick, edition in sights(told):
        if edition > 0:
            most.setdefault((wheel, edition), tick)
    return most


def sights(told):
    """Return the list of triples (wheel, tick, edition) that news tell."""
    found = []
    for tick, wheel, other, edition, twin in told:
        found.extend([(wheel, tick, edition), (other, tick, twin)])
    return found


def is_told(family, plan, watch):
    """Tell whether no other right plan ahead fits the news that a watch has of a plan."""
    lows, highs = spans_of(family, news_of(family.clock, family.before, plan, watch))[0]
    return lows == highs
