"""Far rows that grow by several rules."""

from grownrows.lanes import VALUES, Growth, lanes_of, lanes_of_text, ones_for, remainders, text_of


class Mixture:
    """Some rules of one prime, each of which makes a number of steps.

    As a step is linear and the same everywhere, the steps may be made in any sequence.
    """

    def __init__(self, rules):
        self._prime = rules[0].prime
        self._growths = [Growth(rule) for rule in rules]
        self._first_rows = [growth.first_rows() for growth in self._growths]

    def value_at(self, row, numbers, place):
        """Return the value at a place, if each rule makes as many steps of a row as the list of numbers tells."""
        if not row:
            return 0
        text = text_of(lanes_of([(at - row[0][0], value) for at, value in row]))
        told = list(zip(self._growths, numbers))
        index = place - row[0][0] - sum([growth.least * number for growth, number in told])
        if not 0 <= index < len(text) + sum([growth.width * number for growth, number in told]):
            return 0
        ones = ones_for(len(text) + self._prime * sum([growth.width for growth in self._growths]))
        # With each digit of the numbers the begin falls into parts, one of which has the cell (see Splits).
        while max(numbers) > 0:
            lanes = self._grown(lanes_of_text(text), [number % self._prime for number in numbers], ones)
            numbers = [number // self._prime for number in numbers]
            index, rest = divmod(index, self._prime)
            text = text_of(lanes)[rest::self._prime].rstrip("0")
            if not text:
                return 0
        return VALUES[text[index]] if index < len(text) else 0

    def _grown(self, lanes, digits, ones):
        """Return the lanes of what becomes of cells, if each rule makes fewer steps than the prime."""
        for first_rows, digit in zip(self._first_rows, digits):
            if digit > 0:
                lanes = remainders(self._prime, lanes * first_rows[digit], ones)
        return lanes
