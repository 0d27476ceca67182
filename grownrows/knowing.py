"""Begins that are not known, of which some cells of later rows were seen."""

from grownrows.checks import check_number, check_stretch
from grownrows.errors import InvalidSeen
from grownrows.lanes import LANE, lanes_of
from grownrows.rows import cells_between
from grownrows.spans import Span


def count_begins(rule, low, high, seen_cells):
    """Return how many begins there are with all seen cells."""
    missing = looks_missing(rule, low, high, seen_cells)
    if missing is None:
        return 0
    count = 1
    for _ in range(missing):
        count = count * rule.prime
    return count


def first_begin(rule, low, high, seen_cells):
    """Return the first one of all lists of the values from low to high with all seen cells, None if there is none."""
    _check_known(rule, low, high, seen_cells)
    span = _span_of(rule, low, high, seen_cells)
    if _is_contradictory(span):
        return None
    # A cell is told by those to its left if a vector has its top there; otherwise it may have any value.
    cells = [1]
    for index in range(1, high - low + 2):
        vector = span.kept(index)
        told = sum([(vector >> LANE * at) % (1 << LANE) * value for at, value in enumerate(cells)])
        cells.append(-told % rule.prime)
    return cells[1:]


def sure_value(rule, low, high, seen_cells, number, place):
    """Return the value of a cell for all begins with all seen cells, None if they do not agree or there is none."""
    _check_known(rule, low, high, seen_cells)
    check_number(number)
    span = _span_of(rule, low, high, seen_cells)
    rest = span.rest(_weights(rule, low, high, number, place))
    return None if _is_contradictory(span) or rest >= 1 << LANE else rest


def looks_missing(rule, low, high, seen_cells):
    """Return the least number of further cells that can leave one begin alone, None if there is no begin."""
    _check_known(rule, low, high, seen_cells)
    span = _span_of(rule, low, high, seen_cells)
    return None if _is_contradictory(span) else high - low + 1 - span.many()


def _check_known(rule, low, high, seen_cells):
    """Raise the error of the first thing that is wrong with a stretch and with seen cells."""
    check_stretch(low, high)
    for at, (number, _, value) in enumerate(seen_cells):
        if number < 0 or not 0 <= value < rule.prime:
            raise InvalidSeen(at)


def _span_of(rule, low, high, seen_cells):
    """Return what is known of the begins with all seen cells, as vectors.

    A vector has a number as cell 0, and weights of the cells of the begin as those behind it: for each such begin the
    number and the weights times the cells make 0 together.
    """
    span = Span(rule.prime, high - low + 2)
    for number, place, value in seen_cells:
        span.take(_weights(rule, low, high, number, place) + (rule.prime - value) % rule.prime)
    return span


def _weights(rule, low, high, number, place):
    """Return the vector of the weights with which the cells of a begin make a cell of the row with a number."""
    # A cell of the begin grows as a single 1 does, so many times.
    cells = cells_between(rule, [(0, 1)], number, place - high, place - low)
    return lanes_of(list(enumerate(cells[::-1], 1)))


def _is_contradictory(span):
    """Return whether there is no begin: a number other than 0 would have to be 0."""
    return span.kept(0) > 0
