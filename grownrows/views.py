"""Watchers, who see one cell of each row."""

from grownrows.checks import check_number, check_row, check_value
from grownrows.factors import Wheel
from grownrows.firsts import Firsts
from grownrows.rows import cell_at
from grownrows.tallies import begins_at_last
from grownrows.tracks import Track, seen_at_first


class View:
    """A watcher, who sees the cell at place + drift * number in the row with a number; a view never changes."""

    def __init__(self, rule, row, place, drift):
        check_row(rule.prime, row)
        self._rule = rule
        self._row = list(row)
        self._place = place
        self._drift = drift
        self._track = None
        self._firsts = None

    @property
    def rule(self):
        """The rule by which the rows grow."""
        return self._rule

    @property
    def row(self):
        """The begin, as a new list."""
        return list(self._row)

    @property
    def place(self):
        """The place that is seen in the begin."""
        return self._place

    @property
    def drift(self):
        """By how much the place that is seen is greater in each row than in the one before."""
        return self._drift

    def seen(self, number):
        """Return the value that is seen in the row with a number."""
        check_number(number)
        return cell_at(self._rule, self._row, number, self._place + self._drift * number)

    def first_seen(self, value):
        """Return the number of the first row in which a value is seen, None if it never is."""
        check_value(self._rule.prime, value, 0)
        return self._first_with(value)

    def count_seen(self, value, number):
        """Return in how many of the rows from the begin to the one with a number a value is seen."""
        prime = self._rule.prime
        check_value(prime, value, 0)
        check_number(number)
        if not self._row:
            return number + 1 if value == 0 else 0
        if value > 0:
            return _many_seen(self._track_once(), number, prime - 1, value)
        return number + 1 - _many_seen(self._track_once(), number, 1, 1)

    def all_seen(self):
        """Return the ascending list of all values that are ever seen."""
        return [value for value in range(self._rule.prime) if self._first_with(value) is not None]

    def _first_with(self, value):
        """Return the number of the first row in which a right value is seen, None if it never is."""
        if not self._row:
            return 0 if value == 0 else None
        if self._firsts is None:
            self._firsts = Firsts(self._track_once())
        return self._firsts.number_of(value)

    def _track_once(self):
        """Return the track of the watcher, that is worked out only if it is needed, and once."""
        if self._track is None:
            self._track = Track(self._rule, self._row, self._place, self._drift)
        return self._track


def _many_seen(track, number, parts, value):
    """Return in how many rows up to a number a value other than 0 is seen, by a wheel of so many parts (see Wheel)."""
    last = number if track.latest is None else min(number, track.latest)
    if track.earliest is None or last < track.earliest:
        return 0
    wheel = Wheel(track.modulus, parts, (last + 1) * track.modulus)
    spots = begins_at_last(wheel, track.spots_within, {track.spot: wheel.turned(1, track.factor)}, last + 1)
    seen = [(seen_at_first(spot), tally) for spot, tally in spots.items()]
    return wheel.many(wheel.settled(sum([wheel.turned(tally, lit) for lit, tally in seen if lit > 0])), value)
