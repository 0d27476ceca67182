"""Near and far rows: their cells and their ends."""

from grownrows.blocks import Blocks
from grownrows.checks import check_number, check_row, check_stretch
from grownrows.lanes import VALUES, Growth, lanes_of, ones_for, remainders, text_of
from grownrows.rules import grown_once

# So few products of cells are worked out sooner one by one than in lanes.
FEW = 24

# A begin that is wider than this, far wider than callers pass, would be too long for lanes.
WIDE = 4096


def cell_at(rule, row, number, place):
    """Return the value of the cell at a place in the row with a number."""
    _check_grown(rule, row, number)
    if not row:
        return 0
    first, last = _ends(rule.terms, row, number)
    return _value_at(rule, row, number, place) if first <= place <= last else 0


def cells_between(rule, row, number, low, high):
    """Return the list of the values from place low to place high in the row with a number."""
    _check_grown(rule, row, number)
    check_stretch(low, high)
    length = high - low + 1
    if not row:
        return [0] * length
    first, last = _ends(rule.terms, row, number)
    if high < first or last < low:
        return [0] * length
    if length == 1:
        return [_value_at(rule, row, number, low)]
    if length * len(row) <= FEW or row[-1][0] - row[0][0] > WIDE:
        return _few_values(rule, row, number, list(range(low, high + 1)))
    return _many_values(rule, row, number, low, high)


def ends_of(rule, row, number):
    """Return the outermost places that are not 0 in the row with a number, None for the row of zeros."""
    check_row(rule.prime, row)
    check_number(number)
    return _ends(rule.terms, row, number) if row else None


def rows_until(rule, row, number):
    """Return the list of the rows from the begin to the one with a number."""
    _check_grown(rule, row, number)
    rows = [list(row)]
    if number > 0:
        rows.extend(_thin_rows(rule, row, number))
    if len(rows) <= number:
        rows.extend(_thick_rows(rule, rows[-1], number + 1 - len(rows)))
    return rows


def _check_grown(rule, row, number):
    """Make the checks of a begin and of the number of a row that grows from it."""
    check_row(rule.prime, row)
    check_number(number)


def _ends(terms, row, number):
    """Return the outermost places that are not 0 in the row with a number that grows from a begin other than zeros."""
    # The outermost cell gets something from the outermost one before it alone, so it is never 0.
    return (row[0][0] + number * terms[0][1], row[-1][0] + number * terms[-1][1])


def _thin_rows(rule, row, most):
    """Return the list of the next rows, at most so many, up to the first one for which lanes are sooner."""
    prime, terms = rule.prime, rule.terms
    rows = []
    while len(rows) < most and (len(row) * len(terms) <= FEW or row[-1][0] - row[0][0] > FEW * len(row)):
        row = grown_once(prime, terms, row)
        rows.append(row)
    return rows


def _thick_rows(rule, row, many):
    """Return the list of the next rows, as many as told, of a row other than zeros."""
    growth = Growth(rule)
    prime, pattern = growth.modulus, growth.pattern()
    begin = row[0][0]
    lanes = lanes_of([(place - begin, value) for place, value in row])
    ones = ones_for(row[-1][0] - begin + 1 + many * growth.width)
    rows = []
    for _ in range(many):
        lanes = remainders(prime, lanes * pattern, ones)
        begin += growth.least
        rows.append([(place, VALUES[digit]) for place, digit in enumerate(text_of(lanes), begin) if digit != "0"])
    return rows


def _value_at(rule, row, number, place):
    """Return the value of the cell at a place in the row with a number."""
    # A step is linear: each cell of the begin grows for itself, as a single 1 at place 0 does. After prime * n steps
    # stands what stands after n steps, but with all places multiplied by the prime. So a few cells of row n tell those
    # of row prime * n + digit, and the weights are those with which they count for the cell that is asked for.
    prime = rule.prime
    near_rows = _near_rows(rule, number)
    weights = {place - start: value for start, value in row}
    while number > 0:
        near_row = near_rows[number % prime]
        number = number // prime
        given = {}
        for taker, weight in weights.items():
            for reach, factor in near_row:
                if (taker - reach) % prime == 0:
                    giver = (taker - reach) // prime
                    given[giver] = (given.get(giver, 0) + weight * factor) % prime
        weights = given
    return weights.get(0, 0)


def _few_values(rule, row, number, places):
    """Return the list of the values at places in the row with a number, each on its own."""
    prime = rule.prime
    grown = _grown_from_one(rule, number, {place - start: True for place in places for start, _ in row})
    return [sum([grown[place - start] * value for start, value in row]) % prime for place in places]


def _many_values(rule, row, number, low, high):
    """Return the list of the values from place low to place high in the row with a number, whole blocks at once."""
    growth = Growth(rule)
    blocks = Blocks(growth, row, number)
    first, last = (low - blocks.first) // blocks.size, (high - blocks.first) // blocks.size
    moved = blocks.upper * growth.least
    window_places = list(range(first - growth.width + moved, last + moved + 1))
    grown = _grown_from_one(rule, blocks.upper, window_places)
    window = "".join([str(grown[place]) for place in window_places])
    text = "".join([blocks.text(window[at:at + growth.width + 1]) for at in range(last - first + 1)])
    begin = low - blocks.first - first * blocks.size
    return [VALUES[digit] for digit in text[begin:begin + high - low + 1]]


def _grown_from_one(rule, number, places):
    """Return a dict of the values at places in the row with a number, if the begin is a single 1 at place 0."""
    # Each layer tells which cells of row n give to those of row prime * n + digit that the layer before wants.
    prime = rule.prime
    near_rows = _near_rows(rule, number)
    layers = []
    while number > 0:
        near_row = near_rows[number % prime]
        number = number // prime
        layer, wanted = {}, {}
        for place in places:
            givers = []
            for reach, factor in near_row:
                if (place - reach) % prime == 0:
                    giver = (place - reach) // prime
                    givers.append((giver, factor))
                    wanted[giver] = True
            layer[place] = givers
        layers.append(layer)
        places = wanted
    grown = {place: 1 if place == 0 else 0 for place in places}
    for layer in reversed(layers):
        taken = {}
        for place, givers in layer.items():
            total = 0
            for giver, factor in givers:
                total += grown[giver] * factor
            taken[place] = total % prime
        grown = taken
    return grown


def _near_rows(rule, number):
    """Return the list of the rows from a single 1 at place 0 to a number, or to the prime less 1 if that is less."""
    return rows_until(rule, [(0, 1)], min(number, rule.prime - 1))
