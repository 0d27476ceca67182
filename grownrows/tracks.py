"""The track of a watcher along the rows of a begin."""

from grownrows.factors import without_factor
from grownrows.lanes import VALUES, Growth, lanes_of, text_of
from grownrows.rows import cells_between
from grownrows.splits import Splits


class Track:
    """What a watcher sees: in row n of a begin the cell with the index start + slope * n.

    Cells have indexes from 0 on, counted from the first one that a row can have. What is seen depends on the begin, a
    text, and on the start alone, a spot (text, start); the spot of the track is multiplied by the factor. As the begin
    splits (see Splits), so does the spot: along the same slope, in rows n of another spot is seen what is seen in rows
    prime * n + digit of it.

    earliest and latest are the numbers of the first and the last row in which a cell between the ends is seen. latest
    is None if there is no last one, both are None if there is none at all.
    """

    def __init__(self, rule, row, place, drift):
        growth = Growth(rule)
        begin = row[0][0]
        cells = text_of(lanes_of([(at - begin, value) for at, value in row]))
        start, slope, width = place - begin, drift - growth.least, growth.width
        self.factor, text = without_factor(growth.modulus, cells)
        self.spot = (text, start)
        self.earliest, self.latest = _between_ends((start, slope), (len(cells) - 1 - start, width - slope))
        self.modulus = growth.modulus
        self._rule = rule
        self._drift = drift
        self._slope = slope
        self._width = width
        self._splits = Splits(growth)

    def spots_within(self, spot):
        """Return, for each digit, the list of the tuple (factor, spot) of the spot, empty if nothing but 0 is seen."""
        text, start = spot
        slope, told = self._slope, []
        for parts in self._splits.parts(text):
            index, rest = divmod(start, self.modulus)
            start += slope
            spots = []
            if rest in parts:
                factor, part, lead = parts[rest]
                index -= lead
                if (index >= 0 or slope > 0) and (index < len(part) or slope < self._width):
                    spots.append((factor, (part, index)))
            told.append(spots)
        return told

    def cells_above(self, number, low, high):
        """Return the list of what is seen from start low to start high in the row with a number of a single 1."""
        moved = self._drift * number
        return cells_between(self._rule, [(0, 1)], number, low + moved, high + moved)


def seen_at_first(spot):
    """Return the value that is seen in row 0 of a spot."""
    text, start = spot
    return VALUES[text[start]] if 0 <= start < len(text) else 0


def _between_ends(left, right):
    """Return the tuple of the least and the greatest number for which both sides have room (see Track).

    A side is a tuple (room, growth): for a number there is as much more room as the number times the growth.
    """
    lows, highs = [0], []
    for room, growth in (left, right):
        if growth > 0:
            lows.append(-(room // growth))
        elif room < 0:
            return (None, None)
        elif growth < 0:
            highs.append(room // -growth)
    least, greatest = max(lows), min(highs, default=None)
    return (least, greatest) if greatest is None or least <= greatest else (None, None)
