"""Cells side by side in one integer, so that a step is made of all of them at once.

Each cell has a lane of nine bits, three digits to the base 8, and cell 0 the lowest one. A lane has room for a sum of
31 products of two values; in no step do more of them meet. In a text each cell has one digit, and cell 0 the first.
"""

LANE = 9
VALUES = {"0": 0, "1": 1, "2": 2, "3": 3, "4": 4}

# What is taken away in turn, where there is as much, from numbers below 18 until less than the prime is left.
PARTS = {3: (12, 6, 3), 5: (10, 5)}


def lanes_of(cells):
    """Return the lanes of the cells that a list of tuples (index, value) tells."""
    return sum([value << LANE * index for index, value in cells])


def lanes_of_text(text, distance=1):
    """Return the lanes of the cells of a text, with all indexes multiplied by the distance."""
    zeros = "0" * (3 * distance - 1)
    return int(zeros.join(text[::-1]), 8)


def text_of(lanes):
    """Return the text of cells, without the zeros behind the last other one."""
    return f"{lanes:o}"[::-3]


def ones_for(length):
    """Return as many lanes as a length, with a 1 in each."""
    return ((1 << LANE * length) - 1) // 511


def remainders(prime, sums, ones):
    """Return the lanes with each sum replaced by its remainder by the prime; there is a one for each sum."""
    if prime == 2:
        return sums & ones
    # 16 leaves 1 by 3 and by 5, so what stands above the four low bits may be added to them: what was below 512 is
    # below 47 then, and below 18 if that is done again.
    low, high = 15 * ones, 31 * ones
    sums = (sums & low) + ((sums >> 4) & high)
    sums = (sums & low) + ((sums >> 4) & high)
    for part in PARTS[prime]:
        # The bit of 16 tells where there is at least the part.
        sums = sums - part * (((sums + (16 - part) * ones) >> 4) & ones)
    return sums


class Growth:
    """A rule for cells in lanes: its least offset is taken as 0, so that indexes are never negative.

    modulus is the prime of the rule, least its least offset, and width the greatest one less that.
    """

    def __init__(self, rule):
        terms = rule.terms
        self.modulus = rule.prime
        self.least = terms[0][1]
        self.width = terms[-1][1] - self.least
        self._steps = [(offset - self.least, coefficient) for coefficient, offset in terms]

    def pattern(self, distance=1):
        """Return the lanes of what a single 1 becomes in a step, with all indexes multiplied by the distance."""
        return lanes_of([(index * distance, coefficient) for index, coefficient in self._steps])

    def grown(self, lanes, length, number):
        """Return the lanes of the row with a number, that of a begin with a length."""
        # As many steps as a power of the prime are one step with all offsets multiplied by that power.
        ones = ones_for(length + number * self.width)
        distance = 1
        while number > 0:
            number, digit = divmod(number, self.modulus)
            pattern = self.pattern(distance)
            for _ in range(digit):
                lanes = remainders(self.modulus, lanes * pattern, ones)
            distance = distance * self.modulus
        return lanes

    def first_rows(self):
        """Return the list of the lanes of the rows of a single 1 with numbers below the prime."""
        ones, pattern = ones_for(self.modulus * self.width + 1), self.pattern()
        rows = [1]
        for _ in range(1, self.modulus):
            rows.append(remainders(self.modulus, rows[-1] * pattern, ones))
        return rows
