"""How many cells all rows up to one have together."""

from grownrows.checks import check_number, check_row, check_value
from grownrows.factors import Wheel, without_factor
from grownrows.lanes import Growth, lanes_of, lanes_of_text, ones_for, remainders, text_of


def count_rows(rule, row, number, value):
    """Return how many cells with a value other than 0 the rows from the begin to the one with a number have."""
    check_row(rule.prime, row)
    check_number(number)
    check_value(rule.prime, value, 1)
    return _many_in(rule, row, number + 1, rule.prime - 1, value) if row else 0


def count_lit(rule, row, number):
    """Return how many cells that are not 0 the rows from the begin to the one with a number have."""
    check_row(rule.prime, row)
    check_number(number)
    return _many_in(rule, row, number + 1, 1, 1) if row else 0


def _many_in(rule, row, number, parts, value):
    """Return how many cells with a value the rows before a number have, by a wheel of so many parts (see Wheel)."""
    # Instead of one begin and many rows there are, digit by digit, more begins and fewer rows (see BeginSplits). Only
    # few begins are unlike; a tally tells how often each is there, with which factors. Of the free begins all rows
    # before the number are counted, of the tied ones the row with the number, which is the begin itself at last.
    prime = rule.prime
    growth = Growth(rule)
    splits = BeginSplits(growth)
    factor, begin = without_factor(prime, text_of(lanes_of([(place - row[0][0], cell) for place, cell in row])))
    # There will be at most the square of number * prime begins, none with more cells than these.
    wheel = Wheel(prime, parts, (number * prime) ** 2 * (len(begin) + growth.width))
    free, tied = {begin: wheel.turned(1, factor)}, {}
    while number > 0:
        number, digit = divmod(number, prime)
        free, tied = _split(wheel, splits, free, tied, digit)
    return wheel.many(wheel.settled(sum([tally * wheel.tally(begin) for begin, tally in tied.items()])), value)


def _split(wheel, splits, free, tied, digit):
    """Return the dicts of the free and of the tied begins into which those for a number split, by its last digit."""
    new_free, new_tied = {}, {}
    for begin, tally in free.items():
        for row_digit, parts in enumerate(splits.parts(begin)):
            _add(wheel, new_free, parts, tally)
            if row_digit < digit:
                _add(wheel, new_tied, parts, tally)
    for begin, tally in tied.items():
        _add(wheel, new_tied, splits.parts(begin)[digit], tally)
    return (_settled(wheel, new_free), _settled(wheel, new_tied))


def _add(wheel, begins, parts, tally):
    """Add to a dict of begins the parts of a begin with a tally."""
    for factor, part in parts:
        begins[part] = begins.get(part, 0) + wheel.turned(tally, factor)


def _settled(wheel, begins):
    """Return the dict of begins with all tallies settled."""
    return {begin: wheel.settled(tally) for begin, tally in begins.items()}


class BeginSplits:
    """The begins whose rows n have together the cells of row prime * n + digit of a begin, each as a text.

    As many steps as the prime are one step with all offsets multiplied by the prime. So, the digit's steps once made,
    the cells whose places have the same remainder by the prime grow for themselves, as the begin of a row.
    """

    def __init__(self, growth):
        self._prime = growth.modulus
        self._width = growth.width
        self._pattern = growth.pattern()
        self._kept = {}

    def parts(self, begin):
        """Return, for each digit, the list of the tuples (factor, begin) of the begins that are not all zeros."""
        if begin not in self._kept:
            self._kept[begin] = self._worked_out(begin)
        return self._kept[begin]

    def _worked_out(self, begin):
        prime = self._prime
        ones = ones_for(len(begin) + prime * self._width)
        lanes = lanes_of_text(begin)
        all_parts = []
        for _ in range(prime):
            text = text_of(lanes)
            # Totals do not depend on where a begin lies, so no zeros are kept around it.
            parts = [text[at::prime].strip("0") for at in range(prime)]
            all_parts.append([without_factor(prime, part) for part in parts if part])
            lanes = remainders(prime, lanes * self._pattern, ones)
        return all_parts
