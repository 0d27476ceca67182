"""A far row as a tree of blocks, few of which are unlike."""

from grownrows.blocks import Blocks
from grownrows.factors import without_factor
from grownrows.lanes import LANE, Growth, lanes_of_text, ones_for, remainders, text_of

# What stands for the window of the whole row.
ROOT = ""


class Tree:
    """All cells of a row, in blocks of blocks down to texts.

    A block is told by its window (see Blocks), and only few windows are possible. Windows that differ by a factor
    stand for blocks that do, so one of them is enough. A block in another one is a tuple (factor, window).

    levels are dicts, from the top down: to each window the list of the blocks in its block, from the left. The first
    one has ROOT alone. texts is the dict of the cells of the blocks in the last level. first is the place of the
    first cell of the row, length the number of all cells, and size that of the cells in each block of ROOT.
    """

    def __init__(self, rule, row, number):
        growth = Growth(rule)
        blocks = Blocks(growth, row, number)
        splits = WindowSplits(growth)
        self.modulus = growth.modulus
        self.first = blocks.first
        self.size = self._least_size = blocks.size
        # Row 0 of a single 1 is that 1, and each window has it in another place.
        width = growth.width
        self.levels = [{ROOT: [(1, "0" * (width - at) + "1" + "0" * at) for at in range(width + 1)]}]
        for digit in _digits(growth.modulus, blocks.upper):
            self.levels.append({window: splits.blocks(window, digit) for window in _windows_in(self.levels[-1])})
            self.size = self.size * growth.modulus
        self.length = self.size * (width + 1)
        self.texts = {window: blocks.text(window) for window in _windows_in(self.levels[-1])}

    def folded(self, leaf, join):
        """Return dicts of what is told of each window, those of the levels from the top down, then that of the texts.

        leaf(text) tells it of a text, and join(parts, size) of blocks of a size side by side, tuples (factor, told).
        """
        size = self._least_size
        told = {window: leaf(text) for window, text in self.texts.items()}
        all_told = [told]
        for level in reversed(self.levels):
            told = _joined(level, told, join, size)
            all_told.append(told)
            size = size * self.modulus
        return all_told[::-1]

    def path(self, index):
        """Return the way to a cell as a tuple (steps, text, index): the text with the cell, and its index in it.

        steps are tuples (blocks, at), for each level the blocks in a block and the number of the one with the cell.
        """
        steps = []
        window, size = ROOT, self.size
        for level in self.levels:
            blocks = level[window]
            at, index = divmod(index, size)
            steps.append((blocks, at))
            window, size = blocks[at][1], size // self.modulus
        return (steps, self.texts[window], index)


class WindowSplits:
    """How a window of row n of a single 1 tells windows of row prime * n + digit, those of the blocks in its block."""

    def __init__(self, growth):
        self._prime = growth.modulus
        self._width = growth.width
        self._length = growth.width + growth.modulus
        self._ones = ones_for(self._length)
        self._first_rows = growth.first_rows()
        self._kept = {}

    def blocks(self, window, digit):
        """Return the list of the tuples (factor, window) of the blocks in the block with a window."""
        key = (window, digit)
        if key not in self._kept:
            self._kept[key] = self._worked_out(window, digit)
        return self._kept[key]

    def _worked_out(self, window, digit):
        """Return the list of the tuples of blocks, not kept before."""
        prime, width, length = self._prime, self._width, self._length
        lanes = lanes_of_text(window, prime) * self._first_rows[digit]
        # The last cell of the window becomes the last one of the first new window, and the new ones, as many as the
        # prime, lie side by side. So the first of their cells lies a width before it.
        lanes = (lanes >> (LANE * width * (prime - 1))) & ((1 << LANE * length) - 1)
        text = text_of(remainders(prime, lanes, self._ones)).ljust(length, "0")
        return [without_factor(prime, text[at:at + width + 1]) for at in range(prime)]


def _digits(prime, number):
    """Return the list of the digits of a number to the base of the prime, that of the greatest power first."""
    digits = []
    while number > 0:
        number, digit = divmod(number, prime)
        digits.append(digit)
    return digits[::-1]


def _windows_in(level):
    """Return the list of the windows of all blocks in the blocks of a level, each once."""
    return sorted({window for blocks in level.values() for _, window in blocks})


def _joined(level, told, join, size):
    """Return the dict of what is told of the windows of a level, by what is told of the blocks in its blocks."""
    return {window: join([(factor, told[part]) for factor, part in blocks], size) for window, blocks in level.items()}
