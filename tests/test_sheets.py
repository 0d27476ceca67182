"""Promises 37 to 41: how many cells all rows up to one have together."""

import unittest

from grownrows.counting import count_row
from grownrows.errors import InvalidNumber, InvalidRow, InvalidValue
from grownrows.rules import Rule
from grownrows.sheets import count_lit, count_rows
from samples import (FAR, FARTHEST, PAIRS, POWERS, SAMPLES, THREE, added, begins, far_numbers, moved, plain_rows,
                     raised, rules, turned)
from test_rows import WRONG_ROWS


def counts_of(rule, row, number):
    """Return the totals of the values from 1 on."""
    return [count_rows(rule, row, number, value) for value in range(1, rule.prime)]


class ExampleTest(unittest.TestCase):

    def test_the_example_of_the_document(self):
        pairs, three, begin = Rule(2, [(1, 0), (1, 1)]), Rule(2, [(1, -1), (1, 0), (1, 1)]), [(0, 1)]
        self.assertEqual(count_rows(pairs, begin, 3, 1), 9)
        self.assertEqual(count_lit(three, begin, 3), 12)


class NearSheetsTest(unittest.TestCase):

    def test_totals_of_near_rows(self):
        for rule, (prime, terms) in zip(rules(), SAMPLES):
            for row in begins(prime) + begins(prime, -FAR + 20)[2:]:
                totals = [0] * (prime - 1)
                for number, cells in enumerate(plain_rows(prime, terms, row, 32)):
                    values = list(cells.values())
                    totals = [total + values.count(value) for value, total in enumerate(totals, 1)]
                    if number % 5 < 2 or number in (2, 3, 4, 8, 9, 24, 27, 32):
                        with self.subTest(terms=terms, row=row, number=number):
                            self.assertEqual(counts_of(rule, row, number), totals)
                            self.assertEqual(count_lit(rule, row, number), sum(totals))

    def test_by_turns_and_again(self):
        pairs, five = Rule(*PAIRS), Rule(5, [(1, 0), (2, 1)])
        row, other_row = [(0, 1)], [(0, 1), (1, 1)]
        for _ in range(3):
            self.assertEqual(count_rows(pairs, row, 3, 1), 9)
            self.assertEqual(counts_of(five, row, 2), [3, 1, 0, 2])
            self.assertEqual(count_rows(pairs, other_row, 3, 1), 9 - 1 + 2)
            self.assertEqual(counts_of(five, [(0, 2)], 2), [0, 3, 2, 1])
            self.assertEqual(count_lit(pairs, row, 7), 27)
            self.assertEqual(count_lit(pairs, row, 3), 9)

    def test_row_0_is_counted(self):
        for rule in rules():
            row = begins(rule.prime)[4]
            values = [value for _, value in row]
            self.assertEqual(counts_of(rule, row, 0), [values.count(value) for value in range(1, rule.prime)])
            self.assertEqual(count_lit(rule, row, 0), len(row))

    def test_the_row_of_zeros(self):
        for rule in rules():
            for number in (0, 1, 32, FARTHEST):
                self.assertEqual(counts_of(rule, [], number), [0] * (rule.prime - 1))
                self.assertEqual(count_lit(rule, [], number), 0)

    def test_kinds_of_what_is_told(self):
        rule = Rule(*THREE)
        for row in ([], [(0, 1)]):
            for number in (0, 3, FAR):
                self.assertIs(type(count_rows(rule, row, number, 1)), int)
                self.assertIs(type(count_lit(rule, row, number)), int)

    def test_by_position_and_by_name(self):
        rule, row = Rule(3, [(1, 0), (2, 1)]), [(0, 1), (3, 2)]
        self.assertEqual(count_rows(value=2, number=9, row=row, rule=rule), count_rows(rule, row, 9, 2))
        self.assertEqual(count_lit(number=9, row=row, rule=rule), count_lit(rule, row, 9))

    def test_passed_rows_stay(self):
        for rule in rules():
            for row in begins(rule.prime) + [[]]:
                kept = list(row)
                for number in (0, 9, FAR):
                    count_rows(rule, row, number, 1)
                    count_lit(rule, row, number)
                self.assertEqual(row, kept)


class FarSheetsTest(unittest.TestCase):

    def test_rows_some_hundred_steps_away(self):
        for prime, terms in ((2, [(1, -2), (1, 0), (1, 1)]), (3, [(2, 1), (1, 2)]), (5, [(4, -1), (3, 0), (1, 1)])):
            rule, row = Rule(prime, terms), begins(prime)[2]
            totals = [0] * (prime - 1)
            for number, cells in enumerate(plain_rows(prime, terms, row, 260)):
                values = list(cells.values())
                totals = [total + values.count(value) for value, total in enumerate(totals, 1)]
                if number in (63, 64, 65, 80, 81, 82, 124, 125, 126, 127, 128, 242, 243, 244, 255, 256, 257, 260):
                    with self.subTest(prime=prime, number=number):
                        self.assertEqual(counts_of(rule, row, number), totals)
                        self.assertEqual(count_lit(rule, row, number), sum(totals))

    def test_one_row_more_adds_its_own_cells(self):
        for rule in rules():
            for row in begins(rule.prime, 4)[1:4]:
                for number in far_numbers(rule.prime)[:5]:
                    own = [count_row(rule, row, number, value) for value in range(1, rule.prime)]
                    before = counts_of(rule, row, number - 1)
                    with self.subTest(terms=rule.terms, row=row, number=number):
                        self.assertEqual(counts_of(rule, row, number),
                                         [one + other for one, other in zip(before, own)])
                        self.assertEqual(count_lit(rule, row, number) - count_lit(rule, row, number - 1), sum(own))

    def test_lit_cells_are_those_of_all_values(self):
        for rule in rules():
            for row in begins(rule.prime):
                for number in (7, FAR, POWERS[rule.prime], FARTHEST):
                    self.assertEqual(count_lit(rule, row, number), sum(counts_of(rule, row, number)))

    def test_begins_of_one_to_eight_cells(self):
        for rule in rules():
            for many in range(1, 9):
                row = [(5 * at + at % 3, 1 + at % (rule.prime - 1)) for at in range(many)]
                for number in (10 ** 6, FAR):
                    own = [count_row(rule, row, number + 1, value) for value in range(1, rule.prime)]
                    totals = counts_of(rule, row, number)
                    self.assertEqual(counts_of(rule, row, number + 1),
                                     [one + other for one, other in zip(totals, own)])
                    self.assertEqual(count_lit(rule, row, number), sum(totals))

    def test_moved_and_mirrored_begins_and_begins_times_a_factor(self):
        for rule in rules():
            prime, row = rule.prime, begins(rule.prime)[2]
            for number in (31, FAR, POWERS[prime] - 1):
                totals = counts_of(rule, row, number)
                for by in (1, -17, FAR - 20, -FAR + 20):
                    self.assertEqual(counts_of(rule, moved(row, by), number), totals)
                self.assertEqual(counts_of(rule.mirrored(), turned(row), number), totals)
                for factor in range(1, prime):
                    times = [(place, value * factor % prime) for place, value in row]
                    for value in range(1, prime):
                        self.assertEqual(count_rows(rule, times, number, value * factor % prime), totals[value - 1])
                    self.assertEqual(count_lit(rule, times, number), sum(totals))

    def test_a_later_row_as_begin(self):
        for rule in rules():
            row = begins(rule.prime)[3]
            later = rule.next_row(row)
            for number in (FAR, POWERS[rule.prime]):
                totals = counts_of(rule, row, number)
                own = [[value for _, value in row].count(value) for value in range(1, rule.prime)]
                self.assertEqual([one + other for one, other in zip(counts_of(rule, later, number - 1), own)], totals)


class KnownTotalsTest(unittest.TestCase):

    def test_rules_of_two_terms_that_are_equal(self):
        # The cells are binomial coefficients; those of the rows before a power of the prime multiply digit by digit,
        # so the totals of the values do as well, by the products of the values.
        for prime, first in ((2, [0, 3]), (3, [0, 5, 1]), (5, [0, 10, 1, 2, 2])):
            rule = Rule(prime, [(1, 0), (1, 1)])
            totals, power = first, prime
            for exponent in range(1, 61):
                if exponent < 5 or exponent > 57:
                    with self.subTest(prime=prime, exponent=exponent):
                        self.assertEqual(counts_of(rule, [(0, 1)], power - 1), totals[1:])
                        self.assertEqual(count_lit(rule, [(3, prime - 1)], power - 1),
                                         (prime * (prime + 1) // 2) ** exponent)
                products = [0] * prime
                for value, total in enumerate(totals):
                    for other_value, other_total in enumerate(first):
                        products[value * other_value % prime] += total * other_total
                totals, power = products, power * prime

    def test_rules_of_two_terms(self):
        for prime in (2, 3, 5):
            for coefficient in range(1, prime):
                for other_coefficient in range(1, prime):
                    for offset, other_offset in ((0, 1), (-1, 1), (6, 8), (-8, -7)):
                        rule = Rule(prime, [(coefficient, offset), (other_coefficient, other_offset)])
                        self.assertEqual(count_lit(rule, [(-4, 1)], prime ** 60 - 1),
                                         (prime * (prime + 1) // 2) ** 60)

    def test_rules_of_one_term(self):
        for prime, coefficient, offset in ((2, 1, -8), (3, 1, 3), (3, 2, 0), (5, 2, -3), (5, 4, 8), (5, 3, 0)):
            rule = Rule(prime, [(coefficient, offset)])
            values, value = [], 1
            while value not in values:
                values.append(value)
                value = value * coefficient % prime
            for number in (0, 1, 2, 3, 4, 5, 31, FAR - 1, FAR, FAR + 1, FARTHEST):
                self.assertEqual(count_lit(rule, [(9, prime - 1)], number), number + 1)
                expected = [0] * prime
                for at, one in enumerate(values):
                    expected[one] = (number - at) // len(values) + 1
                self.assertEqual(counts_of(rule, [(9, 1)], number), expected[1:])
                row = begins(prime)[4]
                self.assertEqual(count_lit(rule, row, number), len(row) * (number + 1))

    def test_two_cells_far_apart(self):
        for rule in rules():
            width = rule.terms[-1][1] - rule.terms[0][1]
            for number in (0, 1, 5, 9):
                # As long as the cells that grow from both do not meet.
                if number * width < 40:
                    alone = counts_of(rule, [(0, 1)], number)
                    self.assertEqual(counts_of(rule, [(-20, 1), (20, 1)], number), [2 * total for total in alone])
        pairs = Rule(*PAIRS)
        self.assertEqual(count_lit(pairs, [(0, 1), (32, 1)], 31), 2 * 3 ** 5)
        # Such a begin is row 32 of a single 1.
        self.assertEqual(count_lit(pairs, [(0, 1), (32, 1)], 2 ** 60 - 33), 3 ** 60 - 3 ** 5)

    def test_sums_of_begins_that_do_not_meet(self):
        pairs = Rule(*PAIRS)
        row, other_row = [(0, 1), (1, 1)], [(30, 1), (32, 1), (35, 1)]
        for number in (0, 3, 20, 28):
            self.assertEqual(count_lit(pairs, added(2, row, other_row), number),
                             count_lit(pairs, row, number) + count_lit(pairs, other_row, number))


class SheetErrorsTest(unittest.TestCase):

    def setUp(self):
        self.rule = Rule(3, [(1, 0), (2, 1)])

    def calls(self):
        """Return the functions as calls of a row and of a number that are right in all else."""
        return [
            lambda row, number: count_rows(self.rule, row, number, 2),
            lambda row, number: count_lit(self.rule, row, number),
        ]

    def test_row_check(self):
        for at, call in enumerate(self.calls()):
            for row, wrong in WRONG_ROWS:
                for number in (0, 1, 5):
                    kept = list(row)
                    with self.subTest(call=at, row=row, number=number):
                        self.assertEqual(raised(call, row, number), (InvalidRow, wrong))
                        self.assertEqual(row, kept)

    def test_number_check(self):
        for at, call in enumerate(self.calls()):
            for row in ([], [(0, 1)], [(0, 1), (1, 2)]):
                for number in (-1, -2, -FARTHEST):
                    with self.subTest(call=at, row=row, number=number):
                        self.assertEqual(raised(call, row, number), (InvalidNumber, number))

    def test_value_check(self):
        for prime in (2, 3, 5):
            rule = Rule(prime, [(1, 0), (1, 1)])
            for row in ([], [(0, 1)]):
                for number in (0, 7, FARTHEST):
                    for value in (-FARTHEST, -1, 0, prime, prime + 1, FARTHEST):
                        self.assertEqual(raised(count_rows, rule, row, number, value), (InvalidValue, value))
                    for value in range(1, prime):
                        self.assertIsNone(raised(count_rows, rule, row, number, value))

    def test_the_first_of_several_errors(self):
        rule = self.rule
        for call in self.calls():
            self.assertEqual(raised(call, [(0, 1), (0, 1)], -1), (InvalidRow, 1))
        self.assertEqual(raised(count_rows, rule, [(0, 0)], -1, 0), (InvalidRow, 0))
        self.assertEqual(raised(count_rows, rule, [(0, 3)], 1, 3), (InvalidRow, 0))
        self.assertEqual(raised(count_rows, rule, [(0, 1)], -2, 0), (InvalidNumber, -2))
        self.assertEqual(raised(count_rows, rule, [], -2, 5), (InvalidNumber, -2))

    def test_errors_of_arguments_by_name(self):
        self.assertEqual(raised(count_rows, value=0, number=3, row=[], rule=self.rule), (InvalidValue, 0))
        self.assertEqual(raised(count_lit, number=-3, row=[], rule=self.rule), (InvalidNumber, -3))


if __name__ == "__main__":
    unittest.main()
