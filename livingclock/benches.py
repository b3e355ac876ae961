"""The clock at work, tick by tick."""

from livingclock.clocks import check_clock, check_wheel
from livingclock.errors import BadStep
from livingclock.middle import has_later_rest, raised, rest_beside, safe_beside
from livingclock.plans import unfit_at


class Bench:
    """A clock at work: at first at tick 0, all editions being 0."""

    def __init__(self, clock):
        check_clock(clock)
        self._clock = clock
        self._tick = 0
        self._standing = (0,) * len(clock[1])
        self._plan = ((),) * len(clock[1])
        self._harm = ()

    @property
    def tick(self):
        """The tick that is now."""
        return self._tick

    @property
    def standing(self):
        """The tuple of the editions that the wheels have now."""
        return self._standing

    @property
    def plan(self):
        """The tuple, for each wheel, of the ticks of its exchanges so far."""
        return self._plan

    @property
    def harm(self):
        """The tuple of the pairs (tick, pair of wheels that touched and didn't fit) so far."""
        return self._harm

    def exchange(self, wheel):
        """Exchange a wheel for its next edition at this tick."""
        check_wheel(self._clock, wheel)
        if self._tick % self._clock[0] not in self._clock[3][wheel]:
            raise BadStep("this is no gap of the wheel")
        if self._standing[wheel] == self._clock[1][wheel]:
            raise BadStep("the wheel has its last edition")
        if wheel in self._busy():
            raise BadStep("the wheel was exchanged at this tick")
        ticks = self._plan[wheel] + (self._tick,)
        self._standing = raised(self._standing, wheel)
        self._plan = self._plan[:wheel] + (ticks,) + self._plan[wheel + 1:]

    def go(self):
        """Let the tick's touches happen and return the tuple of the pairs that didn't fit; the next tick comes."""
        pairs = unfit_at(self._clock, self._standing, self._tick)
        self._harm = self._harm + tuple([(self._tick, pair) for pair in pairs])
        self._tick = self._tick + 1
        return pairs

    def rest(self):
        """Return the earliest right rest from now on, None if there is none."""
        return rest_beside(self._clock, self._tick, self._standing, self._busy())

    def safe(self):
        """Return the ascending tuple of the wheels that may be exchanged now so that there is a rest."""
        return safe_beside(self._clock, self._tick, self._standing, self._busy())

    def may_wait(self):
        """Tell whether there is a rest without any further exchange at this tick."""
        return has_later_rest(self._clock, self._tick, self._standing)

    def is_done(self):
        """Tell whether all wheels have their last edition."""
        return self._standing == self._clock[1]

    def _busy(self):
        """Return the tuple of the wheels that were exchanged at this tick."""
        return tuple([wheel for wheel, ticks in enumerate(self._plan) if ticks and ticks[-1] == self._tick])
