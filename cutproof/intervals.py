"""Intervals of moments."""

from cutproof.errors import Apart, BadPlace


class Interval:
    """The moments from `start` to `stop` - 1; the empty interval is 0, 0."""

    def __init__(self, start, stop):
        holds = start < stop
        self.start = int(start) if holds else 0
        self.stop = int(stop) if holds else 0

    def __contains__(self, moment):
        return self.start <= moment < self.stop

    def __bool__(self):
        return self.start < self.stop

    def __eq__(self, other):
        if not isinstance(other, Interval):
            return NotImplemented
        return (self.start, self.stop) == (other.start, other.stop)

    def __lt__(self, other):
        if not isinstance(other, Interval):
            return NotImplemented
        return (self.start, self.stop) < (other.start, other.stop)

    def __le__(self, other):
        if not isinstance(other, Interval):
            return NotImplemented
        return (self.start, self.stop) <= (other.start, other.stop)

    def __and__(self, other):
        return Interval(max(self.start, other.start), min(self.stop, other.stop))

    def __sub__(self, other):
        if other:
            parts = [
                Interval(self.start, min(self.stop, other.start)),
                Interval(max(self.start, other.stop), self.stop),
            ]
        else:
            # The 0 and 0 of the empty interval is no place to split at.
            parts = [Interval(self.start, self.stop)]
        return [part for part in parts if part]

    def __or__(self, other):
        if not self or not other:
            kept = self if self else other
            return Interval(kept.start, kept.stop)
        if self.stop < other.start or other.stop < self.start:
            raise Apart("there is a gap between the intervals")
        return Interval(min(self.start, other.start), max(self.stop, other.stop))

    def cut(self, at):
        """Return the interval as two, from start to `at` and from `at` to stop."""
        if not self.start < at < self.stop:
            raise BadPlace("the moment is not strictly inside the interval")
        return Interval(self.start, at), Interval(at, self.stop)
