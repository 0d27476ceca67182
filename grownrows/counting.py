"""How often a value stands in a row or in a part of it, and where."""

from grownrows.checks import check_number, check_row, check_stretch, check_value
from grownrows.errors import InvalidNumber
from grownrows.factors import Wheel, quotient
from grownrows.rows import cell_at
from grownrows.tree import ROOT, Tree


def count_between(rule, row, number, value, low, high):
    """Return how many cells from place low to place high have a value in the row with a number."""
    prime = rule.prime
    check_row(prime, row)
    check_number(number)
    check_value(prime, value, 0)
    check_stretch(low, high)
    if value > 0:
        return _many_between(rule, row, number, prime - 1, value, low, high)
    # The line is 0 beyond the ends of a row, so those are counted that are not 0.
    return high - low + 1 - _many_between(rule, row, number, 1, 1, low, high)


def count_row(rule, row, number, value):
    """Return how many cells of the row with a number have a value other than 0."""
    _check_counted(rule, row, number, value)
    return Census(rule, row, number, rule.prime - 1).total(value) if row else 0


def nth_place(rule, row, number, value, index):
    """Return the place of the cell with an index among those with a value other than 0 in the row with a number."""
    _check_counted(rule, row, number, value)
    if not row:
        raise InvalidNumber(index)
    census = Census(rule, row, number, rule.prime - 1)
    if not 0 <= index < census.total(value):
        raise InvalidNumber(index)
    return census.place_of(value, index)


def place_index(rule, row, number, place):
    """Return the index of a cell among those with its value in the row with a number, None if the value is 0."""
    value = cell_at(rule, row, number, place)
    return Census(rule, row, number, rule.prime - 1).before(value, place) if value > 0 else None


def _check_counted(rule, row, number, value):
    """Make the checks of a begin, of the number of a row and of a value other than 0."""
    check_row(rule.prime, row)
    check_number(number)
    check_value(rule.prime, value, 1)


def _many_between(rule, row, number, parts, value, low, high):
    """Return how many cells of a stretch have a value, by a wheel of so many parts."""
    if not row:
        return 0
    census = Census(rule, row, number, parts)
    return census.before(value, high + 1) - census.before(value, low)


def _tallies_of(tree, wheel):
    """Return the dicts of the tallies of blocks (see Tree)."""
    return tree.folded(lambda text: wheel.tally(text), lambda parts, size: wheel.all_of(parts))


class Census:
    """How many cells of a row have a value, by a wheel of so many parts (see Wheel)."""

    def __init__(self, rule, row, number, parts):
        self._tree = Tree(rule, row, number)
        self._wheel = Wheel(rule.prime, parts, self._tree.length)
        self._tallies = _tallies_of(self._tree, self._wheel)

    def total(self, value):
        """Return how many cells of the whole row have a value."""
        return self._wheel.many(self._tallies[0][ROOT], value)

    def before(self, value, place):
        """Return how many cells to the left of a place have a value."""
        index = place - self._tree.first
        if index <= 0:
            return 0
        if index >= self._tree.length:
            return self.total(value)
        found = 0
        steps, text, rest = self._tree.path(index)
        for tallies, (blocks, at) in zip(self._tallies[1:], steps):
            found += sum([self._many_in(tallies, block, value) for block in blocks[:at]])
            value = quotient(self._tree.modulus, value, blocks[at][0])
        return found + self._wheel.many(self._wheel.tally(text[:rest]), value)

    def place_of(self, value, index):
        """Return the place of the cell with an index among those with a value, of which there are more."""
        prime, place, size = self._tree.modulus, self._tree.first, self._tree.size
        window = ROOT
        for level, tallies in zip(self._tree.levels, self._tallies[1:]):
            blocks = level[window]
            at, found = 0, self._many_in(tallies, blocks[0], value)
            while index >= found:
                at, index = at + 1, index - found
                found = self._many_in(tallies, blocks[at], value)
            factor, window = blocks[at]
            value = quotient(prime, value, factor)
            place, size = place + at * size, size // prime
        text = self._tree.texts[window]
        return place + [cell for cell, digit in enumerate(text) if digit == str(value)][index]

    def _many_in(self, tallies, block, value):
        """Return how many cells of a block have a value."""
        factor, window = block
        return self._wheel.many(tallies[window], quotient(self._tree.modulus, value, factor))
