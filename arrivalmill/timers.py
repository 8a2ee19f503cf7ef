"""The clock, and the timers that wait for it."""

from arrivalmill.errors import BadTime, Held
from arrivalmill.signs import is_count


class Clock:
    """How many ticks there were, and the timers (key, due, to, signal), in the sequence in which they were set."""

    def __init__(self):
        self.now = 0
        self.timers = ()

    def __eq__(self, other):
        return isinstance(other, Clock) and self.now == other.now and self.timers == other.timers

    def with_timer(self, key, time, to, signal):
        """The clock with a timer more, and the signals that are on the way at once."""
        if not is_count(time, 0):
            raise BadTime(time)
        for row in self.timers:
            if row[0] == key:
                raise Held(key)
        if time == 0:
            return (self, ((to, signal),))
        return (_clock_at(self.now, (*self.timers, (key, self.now + time, to, signal))), ())

    def without(self, key):
        """How much is left of a timer, None without one, and the clock without it."""
        for at, row in enumerate(self.timers):
            if row[0] == key:
                return (row[1] - self.now, _clock_at(self.now, self.timers[:at] + self.timers[at + 1:]))
        return (None, self)

    def ticked(self):
        """The clock one farther, and the signals that are due then."""
        now = self.now + 1
        due = [(to, signal) for _, moment, to, signal in self.timers if moment == now]
        return (_clock_at(now, tuple([row for row in self.timers if row[1] != now])), tuple(due))


def _clock_at(now, timers):
    clock = Clock()
    clock.now = now
    clock.timers = timers
    return clock
