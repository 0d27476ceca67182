"""Rules, by which a row grows into the next one."""

from grownrows.checks import check_row
from grownrows.errors import InvalidPrime, InvalidTerm, UnlikePrimes

PRIMES = (2, 3, 5)


class Rule:
    """What each cell gives to the cells near it; a rule never changes."""

    def __init__(self, prime, terms):
        _check_rule(prime, terms)
        self._prime = prime
        self._terms = tuple(sorted(terms, key=lambda term: term[1]))

    def __eq__(self, other):
        if not isinstance(other, Rule):
            return False
        return self._prime == other._prime and self._terms == other._terms

    @property
    def prime(self):
        """The prime by which the sums are counted."""
        return self._prime

    @property
    def terms(self):
        """The new list of the tuples (coefficient, offset), ascending by their offsets."""
        return list(self._terms)

    def mirrored(self):
        """Return the rule with all offsets of the other sign."""
        return Rule(self._prime, [(coefficient, -offset) for coefficient, offset in self._terms])

    def next_row(self, row):
        """Return the row after a step."""
        check_row(self._prime, row)
        return grown_once(self._prime, self._terms, row)


def grown_once(prime, terms, row):
    """Return the row after a step of a row that is right, by the terms of a rule."""
    sums = {}
    for place, value in row:
        for coefficient, offset in terms:
            taker = place + offset
            sums[taker] = sums.get(taker, 0) + coefficient * value
    return [(place, sums[place] % prime) for place in sorted(sums) if sums[place] % prime != 0]


def alike_behind(rule, other_rule):
    """Return the least number of steps after which both rules make the same of every begin, None if there is none."""
    prime = rule.prime
    if prime != other_rule.prime:
        raise UnlikePrimes((prime, other_rule.prime))
    # A row tells the sums of its single cells, so one cell speaks for every begin. Rules that ever become alike
    # differ by a constant factor only, because rows multiply as polynomials over a field do; some power of the
    # factor below the prime is 1, so that more steps than that never help.
    row = other_row = [(0, 1)]
    for steps in range(1, prime):
        row = rule.next_row(row)
        other_row = other_rule.next_row(other_row)
        if row == other_row:
            return steps
    return None


def _check_rule(prime, terms):
    """Raise the error of the first thing that is wrong with a rule."""
    if prime not in PRIMES:
        raise InvalidPrime(prime)
    if not terms:
        raise InvalidTerm(None)
    offsets = {}
    for number, (coefficient, offset) in enumerate(terms):
        if not 0 < coefficient < prime or offset in offsets:
            raise InvalidTerm(number)
        offsets[offset] = True
