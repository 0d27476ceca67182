"""Whether two watchers ever see unlike values, and when they do so first."""

from grownrows.errors import UnlikePrimes
from grownrows.lanes import VALUES, Growth, lanes_of, lanes_of_text, ones_for, remainders, text_of
from grownrows.spans import Span


def parting(view, other_view):
    """Return the number of the first row in which two watchers see unlike values, None if there is none."""
    prime, other_prime = view.rule.prime, other_view.rule.prime
    if prime != other_prime:
        raise UnlikePrimes((prime, other_prime))
    sight, other_sight = Sight(view), Sight(other_view)
    if sight.seen(sight.cells) != other_sight.seen(other_sight.cells):
        return 0
    return _first_unlike(prime, sight, other_sight)


def are_alike(view, other_view):
    """Return whether two watchers see the same in all rows."""
    return parting(view, other_view) is None


def _first_unlike(prime, sight, other_sight):
    """Return the number of the first row in which unlike values are seen in two sights, None if there is none."""
    # The digits of numbers are taken from the last one on. A number is left out if its texts are a sum of multiples of
    # those of lesser numbers: with any digits in front, one of these tells the watchers apart if it does. If no texts
    # with one digit more are new, none will be.
    power, places, known = 1, None, None
    pairs = [(0, sight.cells, other_sight.cells)]
    while True:
        pairs = _with_digit(pairs, power, sight, other_sight)
        for number, text, other_text in pairs:
            if sight.seen(text) != other_sight.seen(other_text):
                return number
        length = sight.length + other_sight.length
        pairs = _without_sums(pairs, Span(prime, length))
        before, places = places, (sight.low, sight.length, other_sight.low, other_sight.length)
        if places != before:
            known = Span(prime, length)
        if not _without_sums(pairs, known):
            return None
        power = power * prime


def _with_digit(pairs, power, sight, other_sight):
    """Return the list of the tuples (number, text, other text) with one digit more, of a power, ascending."""
    texts = sight.take_digit([text for _, text, _ in pairs])
    other_texts = other_sight.take_digit([text for _, _, text in pairs])
    numbers = [number + power * digit for digit in range(len(texts) // len(pairs)) for number, _, _ in pairs]
    return list(zip(numbers, texts, other_texts))


def _without_sums(pairs, span):
    """Return the list of the tuples whose texts are not yet in a span, which takes them in."""
    return [pair for pair in pairs if span.take(lanes_of_text(pair[1] + pair[2]))]


class Sight:
    """The cell that a watcher sees, and those from which what is seen later grows, as a text.

    low is the place of the first cell of a text, counted from the one that is seen, and length the number of its
    cells; cells is the text of the begin. As in Splits, what is seen in rows prime * n + digit that grow from a text
    is what is seen in rows n that grow from another one, with a low and a length of its own.
    """

    def __init__(self, view):
        growth = Growth(view.rule)
        row = view.row
        begin = row[0][0] if row else view.place
        self.cells = text_of(lanes_of([(place - begin, value) for place, value in row]))
        self.low = begin - view.place
        self.length = len(self.cells)
        self._prime = growth.modulus
        self._ends = (growth.least - view.drift, growth.least - view.drift + growth.width)
        self._first_rows = growth.first_rows()

    def seen(self, text):
        """Return the value of the cell that is seen."""
        return VALUES[text[-self.low]] if 0 <= -self.low < self.length else 0

    def take_digit(self, texts):
        """Return the list of the texts, for each digit, in which the rows of others are seen, and go on to these."""
        prime, (least, greatest) = self._prime, self._ends
        ones = ones_for(self.length + prime * (greatest - least))
        bases = [self.low + digit * least for digit in range(prime)]
        last = self.low + self.length - 1
        high = max([(last + digit * greatest) // prime for digit in range(prime)])
        self.low = min([-(-base // prime) for base in bases])
        self.length = max(high - self.low + 1, 1)
        told = []
        for base, pattern in zip(bases, self._first_rows):
            first = -(-base // prime)
            for text in texts:
                cells = text_of(remainders(prime, lanes_of_text(text) * pattern, ones))
                told.append(("0" * (first - self.low) + cells[first * prime - base::prime]).ljust(self.length, "0"))
        return told
