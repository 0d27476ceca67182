"""Rules and rows for the tests, and a second, plain way to the same answers."""

from grownrows.errors import GrowthError
from grownrows.rows import ends_of
from grownrows.rules import Rule

FAR = 10 ** 30
FARTHEST = 10 ** 31

PAIRS = (2, [(1, 0), (1, 1)])
THREE = (2, [(1, -1), (1, 0), (1, 1)])

POWERS = {2: 2 ** 99, 3: 3 ** 62, 5: 5 ** 42}

# Prime and terms: all three primes, one term and several, near offsets and the outermost ones.
SAMPLES = [
    PAIRS,
    THREE,
    (2, [(1, -8)]),
    (2, [(1, 8), (1, 4), (1, 5)]),
    (2, [(1, -2), (1, -1), (1, 0), (1, 1), (1, 2)]),
    (3, [(2, 1), (1, 0)]),
    (3, [(2, -1), (1, 0), (1, 2)]),
    (3, [(2, 5)]),
    (3, [(1, -8), (2, -7), (1, -6), (2, -5)]),
    (5, [(1, 0), (1, 1)]),
    (5, [(1, -1), (3, 0), (4, 1)]),
    (5, [(2, 8), (3, 6)]),
    (5, [(3, -3)]),
]


def rules():
    """Return the rules of the samples."""
    return [Rule(prime, list(terms)) for prime, terms in SAMPLES]


def begins(prime, middle=0):
    """Return begins around a place: a single cell, few cells, and as many and as far apart as they may be."""
    return [
        [(middle, 1)],
        [(middle, prime - 1)],
        [(middle - 3, 1), (middle, prime - 1), (middle + 7, 1)],
        [(middle - 20, prime - 1), (middle + 20, 1)],
        [(middle + at, 1 + at * at % (prime - 1)) for at in range(-20, 21)],
    ]


def far_numbers(prime):
    """Return far numbers of rows: at the bounds, and powers of the prime and the numbers beside them."""
    power = POWERS[prime]
    return [FAR, FARTHEST, power - 1, power, power + 1, 2 * power, (power - 1) // (prime - 1), FAR // 7]


def far_lows(rule, row, number):
    """Return low places of stretches of a row: about the ends, at the begin and in between."""
    first, last = ends_of(rule, row, number)
    return [first - 5, last - 10, row[0][0] - 3, (first + last) // 2, first + (last - first) // 3]


def plain_rows(prime, terms, row, number):
    """Return the rows up to a number as dicts, each cell asked what its neighbours give to it."""
    rows = [dict(row)]
    for _ in range(number):
        last = rows[-1]
        grown = {}
        for place in {at + offset for at in last for _, offset in terms}:
            value = sum(coefficient * last.get(place - offset, 0) for coefficient, offset in terms) % prime
            if value:
                grown[place] = value
        rows.append(grown)
    return rows


def plain_seen(prime, terms, row, place, drift, number):
    """Return the list of what a watcher sees in the rows up to a number."""
    rows = plain_rows(prime, terms, row, number)
    return [cells.get(place + drift * at, 0) for at, cells in enumerate(rows)]


def row_of(cells):
    """Return the row of a dict of cells."""
    return sorted((place, value) for place, value in cells.items() if value)


def moved(row, by):
    """Return a row with all places greater by a number."""
    return [(place + by, value) for place, value in row]


def turned(row):
    """Return a row with all places of the other sign."""
    return row_of({-place: value for place, value in row})


def times(prime, row, factor):
    """Return a row with all values multiplied by a factor."""
    return [(place, value * factor % prime) for place, value in row]


def spread(prime, terms, row, power):
    """Return the row after as many steps as a power of the prime, by what each cell gives then."""
    cells = {}
    for place, value in row:
        for coefficient, offset in terms:
            taker = place + offset * power
            cells[taker] = (cells.get(taker, 0) + coefficient * value) % prime
    return row_of(cells)


def gaps_of(row):
    """Return the tuples (length, place) of the gaps of a row, from the left."""
    return [(behind - before - 1, before + 1) for (before, _), (behind, _) in zip(row, row[1:]) if behind > before + 1]


def added(prime, row, other_row):
    """Return the sum of two rows, cell by cell."""
    cells = dict(row)
    for place, value in other_row:
        cells[place] = (cells.get(place, 0) + value) % prime
    return row_of(cells)


def binomial(prime, upper, lower):
    """Return the binomial coefficient modulo the prime, digit by digit, as the theorem of Lucas tells it."""
    if not 0 <= lower <= upper:
        return 0
    product = 1
    while upper:
        product = product * _small_binomial(upper % prime, lower % prime) % prime
        upper, lower = upper // prime, lower // prime
    return product


def _small_binomial(upper, lower):
    top = bottom = 1
    for step in range(lower):
        top *= upper - step
        bottom *= step + 1
    return top // bottom


def raised(call, *given, **named):
    """Return the very class and the value of the error of the package that a call raises, None for no error."""
    try:
        call(*given, **named)
    except GrowthError as error:
        return type(error), error.value
    return None
