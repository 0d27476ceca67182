"""How many cells all rows up to one have together."""

from grownrows.checks import check_number, check_row, check_value
from grownrows.factors import Wheel, without_factor
from grownrows.lanes import Growth, lanes_of, text_of
from grownrows.splits import Splits
from grownrows.tallies import begins_at_last


def count_rows(rule, row, number, value):
    """Return how many cells with a value other than 0 the rows from the begin to the one with a number have."""
    check_row(rule.prime, row)
    check_number(number)
    check_value(rule.prime, value, 1)
    return _many_in(rule, row, number + 1, rule.prime - 1, value) if row else 0


def count_lit(rule, row, number):
    """Return how many cells that are not 0 the rows from the begin to the one with a number have."""
    check_row(rule.prime, row)
    check_number(number)
    return _many_in(rule, row, number + 1, 1, 1) if row else 0


def _many_in(rule, row, number, parts, value):
    """Return how many cells with a value the rows before a number have, by a wheel of so many parts (see Wheel)."""
    # Instead of one begin and many rows there are, digit by digit, more begins and fewer rows (see Splits). Only few
    # begins are unlike; a tally tells how often each is there, with which factors. Totals do not depend on where a
    # begin lies.
    prime = rule.prime
    growth = Growth(rule)
    splits = Splits(growth)
    factor, begin = without_factor(prime, text_of(lanes_of([(place - row[0][0], cell) for place, cell in row])))
    # There will be at most the square of number * prime begins, none with more cells than these.
    wheel = Wheel(prime, parts, (number * prime) ** 2 * (len(begin) + growth.width))
    begins = begins_at_last(wheel, splits.begins, {begin: wheel.turned(1, factor)}, number)
    return wheel.many(wheel.settled(sum([tally * wheel.tally(begin) for begin, tally in begins.items()])), value)
