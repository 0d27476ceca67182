"""How often each begin is there, as those of many rows split into those of fewer rows."""


def begins_at_last(wheel, split, tallies, number):
    """Return a dict of the tallies of begins that have, together, all cells of the rows before a number.

    These rows grow from begins with tallies, all by a wheel (see Wheel). split tells of a begin, for each digit, the
    list of the tuples (factor, begin) of those whose rows n have the cells of its row prime * n + digit.
    """
    # Of the free begins all rows before the number are counted, of the tied ones the row with the number, which is
    # the begin itself at last.
    free, tied = tallies, {}
    while number > 0:
        number, digit = divmod(number, wheel.modulus)
        free, tied = _split_all(wheel, split, free, tied, digit)
    return tied


def _split_all(wheel, split, free, tied, digit):
    """Return the dicts of the free and of the tied begins into which those for a number split, by its last digit."""
    new_free, new_tied = {}, {}
    for begin, tally in free.items():
        for row_digit, parts in enumerate(split(begin)):
            _add(wheel, new_free, parts, tally)
            if row_digit < digit:
                _add(wheel, new_tied, parts, tally)
    for begin, tally in tied.items():
        _add(wheel, new_tied, split(begin)[digit], tally)
    return (_settled(wheel, new_free), _settled(wheel, new_tied))


def _add(wheel, begins, parts, tally):
    """Add to a dict of begins the parts of a begin with a tally."""
    for factor, part in parts:
        begins[part] = begins.get(part, 0) + wheel.turned(tally, factor)


def _settled(wheel, begins):
    """Return the dict of begins with all tallies settled."""
    return {begin: wheel.settled(tally) for begin, tally in begins.items()}
