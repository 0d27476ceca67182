"""Rows that came before others, and how many steps lead from one row to another one."""

from grownrows.checks import check_number, check_row
from grownrows.factors import INVERSES
from grownrows.rows import rows_until
from grownrows.rules import grown_once


def row_before(rule, row):
    """Return the row of which a step makes a row, None if there is none."""
    return came_from(rule, row, 1)


def rows_back(rule, row):
    """Return the greatest number of steps that can lie behind a row, None if there is no greatest one."""
    prime, terms = rule.prime, rule.terms
    check_row(prime, row)
    if not row or len(terms) == 1:
        return None
    # Who can go back so many steps can go back fewer, too. So the powers of the prime, as steps, are taken from the
    # greatest one on, as often as they can be.
    cells = _cells_of(row)
    power = 1
    while _many_ahead(terms, cells, power * prime) > 0:
        power = power * prime
    steps = 0
    while power > 0:
        ahead = _cells_ahead(prime, terms, cells, power)
        if ahead is None:
            power = power // prime
        else:
            steps, cells = steps + power, ahead
    return steps


def came_from(rule, row, number):
    """Return the row that becomes a row in so many steps, None if there is none."""
    prime, terms = rule.prime, rule.terms
    check_row(prime, row)
    check_number(number)
    if not row:
        return []
    if len(terms) == 1:
        # The steps whose number is the prime less 1 give each cell its value back.
        coefficient, offset = terms[0]
        return _moved(prime, (INVERSES[prime][coefficient], -offset), row, number)
    cells = _cells_of(row)
    first = row[0][0] - number * terms[0][1]
    if _many_ahead(terms, cells, number) < 1:
        return None
    power = 1
    while number > 0:
        number, digit = divmod(number, prime)
        for _ in range(digit):
            cells = _cells_ahead(prime, terms, cells, power)
            if cells is None:
                return None
        power = power * prime
    return [(first + at, value) for at, value in enumerate(cells) if value > 0]


def steps_between(rule, row, other_row):
    """Return the least number of steps in which the first row becomes the other one, None if it never does."""
    prime, terms = rule.prime, rule.terms
    check_row(prime, row)
    check_row(prime, other_row)
    if not row or not other_row:
        return None if row or other_row else 0
    if len(terms) == 1:
        return _steps_of_one_term(prime, terms[0], row, other_row)
    # A row grows at both ends by the outermost offsets.
    least, greatest = terms[0][1], terms[-1][1]
    first, other_first = row[0][0], other_row[0][0]
    number, rest = divmod(other_row[-1][0] - other_first - row[-1][0] + first, greatest - least)
    if rest > 0 or number < 0 or other_first != first + number * least:
        return None
    return number if _becomes(rule, row, number, other_row) else None


def _moved(prime, term, row, number):
    """Return the row with a number, for a rule of one term."""
    coefficient, offset = term
    factor = 1
    for _ in range(number % (prime - 1)):
        factor = factor * coefficient % prime
    return [(place + number * offset, value * factor % prime) for place, value in row]


def _steps_of_one_term(prime, term, row, other_row):
    """Return the least number of steps from one row other than zeros to another one, for a rule of one term."""
    offset = term[1]
    if offset == 0:
        numbers = list(range(prime - 1))
    else:
        number, rest = divmod(other_row[0][0] - row[0][0], offset)
        numbers = [number] if rest == 0 and number >= 0 else []
    for number in numbers:
        if _moved(prime, term, row, number) == other_row:
            return number
    return None


def _cells_of(row):
    """Return the list of the values from the first to the last cell of a row that are not 0."""
    cells = [0] * (row[-1][0] - row[0][0] + 1)
    for place, value in row:
        cells[place - row[0][0]] = value
    return cells


def _many_ahead(terms, cells, number):
    """Return how many cells the row so many steps ahead of cells has, from the first to the last one."""
    return len(cells) - number * (terms[-1][1] - terms[0][1])


def _cells_ahead(prime, terms, cells, power):
    """Return the list of the cells that become others in as many steps as a power of the prime, None for none."""
    # Then all steps are one step with the offsets times the power; what the first term gives a cell is what the cell
    # has, less what it was given by the other terms.
    many = _many_ahead(terms, cells, power)
    if many < 1:
        return None
    factor = INVERSES[prime][terms[0][0]]
    others = [(coefficient, (offset - terms[0][1]) * power) for coefficient, offset in terms[1:]]
    rest = list(cells)
    for at in range(many):
        value = rest[at] * factor % prime
        rest[at] = value
        if value > 0:
            for coefficient, offset in others:
                rest[at + offset] -= coefficient * value
    left = [value for value in rest[many:] if value % prime != 0]
    return None if left else rest[:many]


def _becomes(rule, row, number, other_row):
    """Return whether a row becomes another one in so many steps; the places of both may lie any far apart."""
    # With each digit of the number both rows fall into as many parts as the prime tells, as begins do in Splits. As
    # cells that are not all 0 never become all 0, there are no more parts than cells of the other row.
    prime = rule.prime
    near_rows = rows_until(rule, [(0, 1)], prime - 1)
    pairs = [(row, other_row)]
    while number > 0:
        number, digit = divmod(number, prime)
        terms = [(value, place) for place, value in near_rows[digit]]
        parts = []
        for one, other in pairs:
            grown, wanted = _parts_of(prime, grown_once(prime, terms, one)), _parts_of(prime, other)
            if sorted(grown) != sorted(wanted):
                return False
            parts.extend([(grown[at], wanted[at]) for at in grown])
        pairs = parts
    return all([one == other for one, other in pairs])


def _parts_of(prime, row):
    """Return the dict of the rows into which a row falls, by the remainders of its places."""
    parts = {}
    for place, value in row:
        parts.setdefault(place % prime, []).append((place // prime, value))
    return parts
