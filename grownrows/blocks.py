"""Rows in blocks: few cells of a row that grows from a single 1 tell many cells of a far row."""

from grownrows.lanes import LANE, VALUES, lanes_of, ones_for, remainders, text_of

# Blocks of fewer cells would be too many.
LEAST_SIZE = 64


class Blocks:
    """The row with a number, in blocks of size cells each; the size is a power of the prime.

    The number is size * upper + lower. After lower steps there is row lower of the begin; size * upper more steps
    make of it what upper steps make of a cell, but with all places multiplied by the size. So block k of the row is a
    sum of the blocks of row lower, times cells of row upper of a single 1: block 0 times cell k, block 1 times cell
    k - 1, and so on. These cells, from k less the width of the rule to k, are the window of the block, as a text.

    first is the place of the first cell of block 0. No cell of the row before it is other than 0.
    """

    def __init__(self, growth, row, number):
        begin, end = row[0][0], row[-1][0]
        self.size = _size_for(growth.modulus, end - begin - growth.width)
        self.upper, lower = divmod(number, self.size)
        self.first = begin + number * growth.least
        self._prime = growth.modulus
        self._ones = ones_for(self.size)
        lanes = growth.grown(lanes_of([(place - begin, value) for place, value in row]), end - begin + 1, lower)
        step = LANE * self.size
        block = (1 << step) - 1
        # From the last one to block 0, as the cells of a window that they are multiplied by.
        self._pieces = [(lanes >> (step * at)) & block for at in range(growth.width, -1, -1)]

    def text(self, window):
        """Return the text of all cells of the block with a window."""
        lanes = sum([VALUES[digit] * piece for digit, piece in zip(window, self._pieces)])
        return text_of(remainders(self._prime, lanes, self._ones)).ljust(self.size, "0")


def _size_for(prime, excess):
    """Return the size of blocks, if the begin is wider than the rule by an excess."""
    # A size above the excess makes row lower so short that it has no more blocks than a window has cells.
    size = prime
    while size < LEAST_SIZE or size <= excess:
        size = size * prime
    return size
