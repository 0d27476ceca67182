"""The first rows in which a watcher sees values."""

from grownrows.lanes import LANE, lanes_of, lanes_of_text
from grownrows.tracks import seen_at_first

# A lane has room for the products of the cells of so long a text.
LONGEST = 31


class Firsts:
    """The numbers of the first rows in which values are seen along a track, found as far as they are asked for.

    The digits of numbers are taken from the last one on. Of all numbers that lead to the same spot and factor (see
    Track) the least one is kept. As only 0 is seen ahead of the earliest row, the digits that were not taken yet are
    those of its number at first.
    """

    def __init__(self, track):
        self._track = track
        self._power = 1
        self._reached = {(track.spot, track.factor): 0}
        self._known = {}
        self._found = {} if track.earliest == 0 else {0: 0}
        self._unfinished = track.earliest is not None

    def number_of(self, value):
        """Return the number of the first row in which a value is seen, None if it never is."""
        while self._unfinished and value not in self._found:
            self._take_digit()
            self._look()
        return self._found.get(value)

    def _take_digit(self):
        """Go on to the numbers with one digit more."""
        prime, power = self._track.modulus, self._power
        reached = {}
        for (spot, factor), number in self._reached.items():
            for spots in self._track.spots_within(spot):
                for times, part in spots:
                    state = (part, factor * times % prime)
                    if number < reached.get(state, number + 1):
                        reached[state] = number
                if not spots:
                    self._find(0, number)
                number += power
        self._reached = reached
        self._power = power * prime

    def _look(self):
        """Find what is seen with the digits that were taken, and whether there can be more to find."""
        upper = self._track.earliest // self._power
        if upper > 0 and max([len(text) for (text, _), _ in self._reached], default=0) > LONGEST:
            return
        values = self._values_above(upper) if upper > 0 else self._values_at_first()
        for number, value in zip(self._reached.values(), values):
            self._find(value, upper * self._power + number)
        latest = self._track.latest
        if latest is not None and latest < (upper + 1) * self._power:
            self._find(0, latest + 1)
            self._unfinished = False
        elif upper == 0:
            self._unfinished = self._is_new()

    def _find(self, value, number):
        """Take note of a value that is seen in the row with a number."""
        if number < self._found.get(value, number + 1):
            self._found[value] = number

    def _is_new(self):
        """Tell whether there are spots with factors that were not reached before, and know them from now on."""
        new = [state for state in self._reached if state not in self._known]
        for state in new:
            self._known[state] = True
        return len(new) > 0

    def _values_at_first(self):
        """Return the list of the values that are seen in row 0 of the spots."""
        prime = self._track.modulus
        return [seen_at_first(spot) * factor % prime for spot, factor in self._reached]

    def _values_above(self, upper):
        """Return the list of the values that are seen in row upper of the spots."""
        if not self._reached:
            return []
        prime = self._track.modulus
        texts = {text: lanes_of_text(text) for (text, _), _ in self._reached}
        starts = [start for (_, start), _ in self._reached]
        low = min(starts) - max([len(text) for text in texts]) + 1
        # What a begin becomes is the begin times what a single 1 becomes; the cell that is seen has one of the lanes.
        cells = lanes_of(list(enumerate(self._track.cells_above(upper, low, max(starts)))))
        return [(texts[text] * cells >> LANE * (start - low)) % 512 * factor % prime
                for (text, start), factor in self._reached]
