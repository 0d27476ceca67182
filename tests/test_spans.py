"""Parts that several modules share: sums of vectors, and the rows of a single 1."""

import unittest
from itertools import product

from grownrows.lanes import Growth, lanes_of, text_of
from grownrows.rows import rows_until
from grownrows.rules import Rule
from grownrows.spans import Span, top_of
from samples import SAMPLES


def vector_of(values):
    """Return the vector of a list of cells."""
    return lanes_of(list(enumerate(values)))


def sums_of(prime, vectors, length):
    """Return all sums of multiples of vectors, each one tried."""
    sums = {(0,) * length}
    for vector in vectors:
        sums = {tuple((one + factor * other) % prime for one, other in zip(told, vector))
                for told in sums for factor in range(prime)}
    return sums


class SpanTest(unittest.TestCase):

    def test_all_sums_and_no_others(self):
        for prime, length in ((2, 5), (3, 4), (5, 3)):
            for many in range(5):
                vectors = [tuple((at * at + salt * at + 2 * salt) % 11 % prime for at in range(length))
                           for salt in range(many)]
                span = Span(prime, length)
                for at, vector in enumerate(vectors):
                    is_new = vector not in sums_of(prime, vectors[:at], length)
                    self.assertEqual(span.take(vector_of(vector)), is_new)
                sums = sums_of(prime, vectors, length)
                self.assertEqual(prime ** span.many(), len(sums))
                for values in product(range(prime), repeat=length):
                    rest = span.rest(vector_of(values))
                    self.assertEqual(rest == 0, values in sums)
                    if rest:
                        self.assertEqual(span.kept(top_of(rest)), 0)

    def test_the_top_of_a_vector_that_is_kept_is_1(self):
        span = Span(5, 4)
        span.take(vector_of([1, 2, 3, 0]))
        span.take(vector_of([4, 0, 0, 2]))
        self.assertEqual([span.kept(top) for top in range(4)],
                         [0, 0, vector_of([2, 4, 1, 0]), vector_of([2, 0, 0, 1])])


class FirstRowsTest(unittest.TestCase):

    def test_rows_of_a_single_1(self):
        for prime, terms in SAMPLES:
            growth = Growth(Rule(prime, terms))
            rows = rows_until(Rule(prime, terms), [(0, 1)], prime - 1)
            told = []
            for number, lanes in enumerate(growth.first_rows()):
                text = text_of(lanes)
                told.append([(at + number * growth.least, int(digit)) for at, digit in enumerate(text) if digit != "0"])
            self.assertEqual(told, rows)


if __name__ == "__main__":
    unittest.main()
