"""Texts of cells up to a factor, and how often each value stands in them."""

from grownrows.lanes import VALUES

INVERSES = {2: (0, 1), 3: (0, 1, 2), 5: (0, 1, 3, 2, 4)}

# The exponents with which the values other than 0 are powers of 1 for the prime 2, and of 2 for 3 and 5.
EXPONENTS = {2: (0, 0), 3: (0, 0, 1), 5: (0, 0, 1, 3, 2)}


def quotient(prime, value, factor):
    """Return the value that becomes a value if it is multiplied by the factor."""
    return value * INVERSES[prime][factor] % prime


def without_factor(prime, text):
    """Return a text of cells as a tuple (factor, text): the text times the factor is the passed one, and the first of
    its cells that is not 0 is 1."""
    lit = text.lstrip("0")
    if not lit or lit[0] == "1":
        return (1, text)
    factor = VALUES[lit[0]]
    return (factor, "".join([str(quotient(prime, VALUES[digit], factor)) for digit in text]))


class Wheel:
    """A way to keep in one integer, a tally, how many cells have each value other than 0.

    Each value has a part of the bits, in the order of the exponents. So the tally of cells times a factor is the one
    of the cells, turned: shifted by the part of the factor, with what comes behind the last part added to the first
    parts; the latter is to settle it. A wheel of one part alone takes all values for the same.
    """

    def __init__(self, prime, parts, most):
        """Make a wheel for at most so many cells."""
        bits = most.bit_length()
        self.modulus = prime
        self._part = (1 << bits) - 1
        self._all_bits = parts * bits
        self._shifts = [exponent % parts * bits for exponent in EXPONENTS[prime]]
        self._digits = [(str(value), self._shifts[value]) for value in range(1, prime)]

    def tally(self, text):
        """Return the tally of the cells of a text."""
        return sum([text.count(digit) << shift for digit, shift in self._digits])

    def turned(self, tally, factor):
        """Return the tally of cells times a factor, not yet settled."""
        return tally << self._shifts[factor]

    def settled(self, tally):
        """Return a tally, or a sum or a product of settled tallies, as a settled one."""
        return (tally & ((1 << self._all_bits) - 1)) + (tally >> self._all_bits)

    def all_of(self, parts):
        """Return the settled tally of all cells of parts: tuples (factor, tally) of what is multiplied by a factor."""
        return self.settled(sum([self.turned(tally, factor) for factor, tally in parts]))

    def many(self, tally, value):
        """Return how many cells of a settled tally have a value."""
        return (tally >> self._shifts[value]) & self._part
