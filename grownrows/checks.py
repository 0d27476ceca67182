"""The checks that several modules make of what they are passed."""

from grownrows.errors import InvalidNumber, InvalidRow, InvalidStretch


def check_row(prime, row):
    """Raise InvalidRow for the first tuple that cannot stand where it does in a row of values below the prime."""
    for number, (place, value) in enumerate(row):
        if not 0 < value < prime:
            raise InvalidRow(number)
        if number > 0 and place <= row[number - 1][0]:
            raise InvalidRow(number)


def check_number(number):
    """Raise InvalidNumber for the number of a row that lies before the begin."""
    if number < 0:
        raise InvalidNumber(number)


def check_stretch(low, high):
    """Raise InvalidStretch for a stretch that ends before it begins."""
    if low > high:
        raise InvalidStretch((low, high))
