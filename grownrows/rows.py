"""Near and far rows: their cells and their ends."""

from grownrows.checks import check_number, check_row, check_stretch


def cell_at(rule, row, number, place):
    """Return the value of the cell at a place in the row with a number."""
    _check_grown(rule, row, number)
    return _cells_at(rule, row, number, [place])[0]


def cells_between(rule, row, number, low, high):
    """Return the list of the values from place low to place high in the row with a number."""
    _check_grown(rule, row, number)
    check_stretch(low, high)
    return _cells_at(rule, row, number, list(range(low, high + 1)))


def ends_of(rule, row, number):
    """Return the outermost places that are not 0 in the row with a number, None for the row of zeros."""
    _check_grown(rule, row, number)
    if not row:
        return None
    # The outermost cell gets something from the outermost one before it alone, so it is never 0.
    terms = rule.terms
    return (row[0][0] + number * terms[0][1], row[-1][0] + number * terms[-1][1])


def rows_until(rule, row, number):
    """Return the list of the rows from the begin to the one with a number."""
    _check_grown(rule, row, number)
    rows = [list(row)]
    for _ in range(number):
        rows.append(rule.next_row(rows[-1]))
    return rows


def _check_grown(rule, row, number):
    """Make the checks of a begin and of the number of a row that grows from it."""
    check_row(rule.prime, row)
    check_number(number)


def _cells_at(rule, row, number, places):
    """Return the list of the values at places in the row with a number."""
    # A step is linear: each cell of the begin grows for itself, as a single 1 at place 0 does.
    wanted = {place - start: True for place in places for start, _ in row}
    grown = _grown_from_one(rule, number, wanted)
    givers = [[(place - start, value) for start, value in row] for place in places]
    return [_total(rule.prime, grown, given) for given in givers]


def _grown_from_one(rule, number, places):
    """Return a dict of the values at places in the row with a number, if the begin is a single 1 at place 0."""
    # After prime * n steps stands what stands after n steps, but with all places multiplied by the prime. So a few
    # cells of row n tell those of row prime * n + digit, and each digit of the number is worth one such layer.
    prime = rule.prime
    near_rows = rows_until(rule, [(0, 1)], prime - 1)
    layers = []
    while number > 0:
        near_row = near_rows[number % prime]
        givers = {place: _givers(prime, near_row, place) for place in places}
        layers.append(givers)
        places = {giver: True for given in givers.values() for giver, _ in given}
        number = number // prime
    grown = {place: 1 if place == 0 else 0 for place in places}
    for givers in reversed(layers):
        grown = {place: _total(prime, grown, givers[place]) for place in givers}
    return grown


def _givers(prime, near_row, place):
    """Return the cells of row n that give to a place of row prime * n + digit, as tuples (place, factor).

    The near row is the one that a single 1 at place 0 makes in digit steps.
    """
    return [((place - reach) // prime, factor) for reach, factor in near_row if (place - reach) % prime == 0]


def _total(prime, grown, givers):
    """Return what a cell is given in all, by tuples (place, factor) of cells whose values are known."""
    return sum([grown[place] * factor for place, factor in givers]) % prime
