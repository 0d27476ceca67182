"""Cells in lanes as vectors, and what sums of multiples of them can be."""

from grownrows.factors import INVERSES
from grownrows.lanes import LANE, ones_for, remainders


class Span:
    """All sums of multiples of the vectors that were taken in, each of them so many cells in lanes at most.

    As many vectors are kept as are needed to make the same sums. The last cell of a vector that is not 0 is its top:
    no two that are kept have the same one, and it is always 1.
    """

    def __init__(self, prime, length):
        self._prime = prime
        self._ones = ones_for(length)
        self._kept = {}

    def take(self, vector):
        """Take a vector in, and return whether there are more sums with it than without it."""
        rest = self.rest(vector)
        if rest == 0:
            return False
        top = top_of(rest)
        self._kept[top] = remainders(self._prime, rest * INVERSES[self._prime][rest >> LANE * top], self._ones)
        return True

    def rest(self, vector):
        """Return what is left of a vector less one of the sums: 0 if it is one, otherwise its top is that of none."""
        while vector > 0:
            top = top_of(vector)
            if top not in self._kept:
                return vector
            factor = self._prime - (vector >> LANE * top)
            vector = remainders(self._prime, vector + factor * self._kept[top], self._ones)
        return 0

    def kept(self, top):
        """Return the vector that is kept with a top, 0 if there is none."""
        return self._kept.get(top, 0)

    def many(self):
        """Return how many vectors are kept."""
        return len(self._kept)


def top_of(vector):
    """Return the index of the last cell of a vector that is not 0."""
    return (vector.bit_length() - 1) // LANE
