"""The checks that several modules make of what they are passed."""

from grownrows.errors import InvalidNumber, InvalidRow, InvalidStretch, InvalidValue


def check_row(prime, row):
    """Raise InvalidRow for the first tuple that cannot stand where it does in a row of values below the prime."""
    number = before = 0
    for place, value in row:
        if not 0 < value < prime or (number > 0 and place <= before):
            raise InvalidRow(number)
        number, before = number + 1, place


def check_number(number):
    """Raise InvalidNumber for the number of a row that lies before the begin."""
    if number < 0:
        raise InvalidNumber(number)


def check_stretch(low, high):
    """Raise InvalidStretch for a stretch that ends before it begins."""
    if low > high:
        raise InvalidStretch((low, high))


def check_value(prime, value, least):
    """Raise InvalidValue for a value that is not from the least one to the prime less 1."""
    if not least <= value < prime:
        raise InvalidValue(value)
