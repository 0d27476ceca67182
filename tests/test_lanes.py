"""Cells in lanes, from which all promises about many cells at once are built."""

import unittest

from grownrows.factors import quotient, without_factor
from grownrows.lanes import LANE, Growth, lanes_of, lanes_of_text, ones_for, remainders, text_of
from samples import SAMPLES, begins, plain_rows, rules


class LanesTest(unittest.TestCase):

    def test_remainders_of_all_sums(self):
        sums = list(range(512))
        lanes = lanes_of(list(enumerate(sums)))
        for prime in (2, 3, 5):
            told = remainders(prime, lanes, ones_for(512))
            self.assertEqual(text_of(told).ljust(512, "0"), "".join(str(one % prime) for one in sums))

    def test_remainders_beside_the_greatest_sums(self):
        for prime in (2, 3, 5):
            for one in range(512):
                lanes = lanes_of([(0, 511), (1, one), (2, 511)])
                expected = [511 % prime, one % prime, 511 % prime]
                told = remainders(prime, lanes, ones_for(3))
                self.assertEqual([told >> LANE * at & 511 for at in range(3)], expected)

    def test_texts(self):
        for text in ("1", "0001", "10234", "4" * 70):
            self.assertEqual(text_of(lanes_of_text(text)), text)
            for distance in (2, 3, 5):
                spread = ("0" * (distance - 1)).join(text)
                self.assertEqual(text_of(lanes_of_text(text, distance)), spread)
        self.assertEqual(text_of(lanes_of_text("0120")), "012")
        self.assertEqual(text_of(lanes_of_text("000")), "0")

    def test_growth(self):
        for rule, (prime, terms) in zip(rules(), SAMPLES):
            growth = Growth(rule)
            for row in begins(prime, 20)[2:]:
                begin, end = row[0][0], row[-1][0]
                lanes = lanes_of([(place - begin, value) for place, value in row])
                for number, cells in enumerate(plain_rows(prime, terms, row, 40)):
                    text = text_of(growth.grown(lanes, end - begin + 1, number))
                    first = begin + number * growth.least
                    told = {first + at: int(digit) for at, digit in enumerate(text) if digit != "0"}
                    self.assertEqual(told, cells)


class FactorsTest(unittest.TestCase):

    def test_quotients(self):
        for prime in (2, 3, 5):
            for value in range(prime):
                for factor in range(1, prime):
                    self.assertEqual(quotient(prime, value, factor) * factor % prime, value)

    def test_texts_without_factors(self):
        for prime, text in ((2, "0110"), (3, "0212"), (3, "12"), (5, "00304"), (5, "4321"), (5, "2"), (3, "000")):
            factor, rest = without_factor(prime, text)
            self.assertEqual("".join(str(int(digit) * factor % prime) for digit in rest), text)
            self.assertIn(rest.lstrip("0")[:1], ("1", ""))
            self.assertEqual(without_factor(prime, rest), (1, rest))


if __name__ == "__main__":
    unittest.main()
