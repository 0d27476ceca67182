"""Promises 6, 9 and 10: near rows, their ends, and the errors of all functions of rows."""

import unittest

from grownrows.errors import InvalidNumber, InvalidRow, InvalidStretch
from grownrows.rows import cell_at, cells_between, ends_of, rows_until
from grownrows.rules import Rule, alike_behind
from samples import FAR, FARTHEST, PAIRS, SAMPLES, THREE, begins, plain_rows, raised, row_of, rules


class ExampleTest(unittest.TestCase):

    def test_the_example_of_the_document(self):
        pairs, three = Rule(2, [(1, 0), (1, 1)]), Rule(2, [(1, -1), (1, 0), (1, 1)])
        self.assertEqual(pairs.next_row([(0, 1), (1, 1)]), [(0, 1), (2, 1)])
        self.assertEqual(cells_between(pairs, [(0, 1)], 6, 0, 6), [1, 0, 1, 0, 1, 0, 1])
        self.assertEqual(cell_at(three, [(0, 1)], 3, 0), 1)
        self.assertEqual(ends_of(three, [(0, 1)], 10 ** 30),
                         (-1000000000000000000000000000000, 1000000000000000000000000000000))
        self.assertEqual(rows_until(three, [(0, 1)], 2), [[(0, 1)], [(-1, 1), (0, 1), (1, 1)],
                                                          [(-2, 1), (0, 1), (2, 1)]])
        self.assertEqual(alike_behind(Rule(3, [(1, 0), (1, 1)]), Rule(3, [(2, 0), (2, 1)])), 2)
        self.assertIsNone(alike_behind(pairs, three))


class NearRowsTest(unittest.TestCase):

    def test_rows_until(self):
        for rule, (prime, terms) in zip(rules(), SAMPLES):
            for row in begins(prime) + begins(prime, -FAR + 20):
                rows = [row_of(cells) for cells in plain_rows(prime, terms, row, 40)]
                with self.subTest(terms=terms, row=row):
                    self.assertEqual(rows_until(rule, row, 40), rows)
                    for number in (0, 1, 2, 3, 39):
                        self.assertEqual(rows_until(rule, row, number), rows[:number + 1])

    def test_cells_between_in_all_near_rows(self):
        for rule, (prime, terms) in zip(rules(), SAMPLES):
            for row in begins(prime):
                for number, cells in enumerate(plain_rows(prime, terms, row, 40)):
                    low, high = min(cells) - 3, max(cells) + 3
                    told = cells_between(rule, row, number, low, high)
                    with self.subTest(terms=terms, row=row, number=number):
                        self.assertEqual(told, [cells.get(place, 0) for place in range(low, high + 1)])

    def test_cell_at_in_near_rows(self):
        for rule, (prime, terms) in zip(rules(), SAMPLES):
            for row in begins(prime)[2:4]:
                rows = plain_rows(prime, terms, row, 40)
                for number in (0, 1, 2, 3, 4, 5, 7, 8, 9, 24, 25, 26, 27, 31, 32, 33, 40):
                    cells = rows[number]
                    low, high = min(cells) - 2, max(cells) + 2
                    told = [cell_at(rule, row, number, place) for place in range(low, high + 1)]
                    with self.subTest(terms=terms, row=row, number=number):
                        self.assertEqual(told, [cells.get(place, 0) for place in range(low, high + 1)])

    def test_near_rows_of_far_begins(self):
        for rule, (prime, terms) in zip(rules(), SAMPLES):
            for row in begins(prime, FAR - 20) + begins(prime, -FAR + 20):
                rows = plain_rows(prime, terms, row, 12)
                for number in (0, 1, 5, 12):
                    cells = rows[number]
                    low, high = min(cells) - 3, max(cells) + 3
                    told = cells_between(rule, row, number, low, high)
                    with self.subTest(terms=terms, row=row, number=number):
                        self.assertEqual(told, [cells.get(place, 0) for place in range(low, high + 1)])

    def test_row_0_is_the_begin(self):
        for rule in rules():
            row = [(-4, 1), (0, rule.prime - 1), (3, 1)]
            self.assertEqual(rows_until(rule, row, 0), [row])
            self.assertEqual(cells_between(rule, row, 0, -5, 4), [0, 1, 0, 0, 0, rule.prime - 1, 0, 0, 1, 0])
            self.assertEqual(ends_of(rule, row, 0), (-4, 3))

    def test_the_row_of_zeros(self):
        for rule in rules():
            self.assertEqual(rows_until(rule, [], 3), [[], [], [], []])
            for number in (0, 1, 8, FARTHEST):
                self.assertEqual(cell_at(rule, [], number, 0), 0)
                self.assertEqual(cells_between(rule, [], number, -2, 2), [0, 0, 0, 0, 0])
                self.assertIsNone(ends_of(rule, [], number))

    def test_a_stretch_of_one_cell(self):
        rule = Rule(*PAIRS)
        self.assertEqual(cells_between(rule, [(0, 1)], 5, 4, 4), [1])
        self.assertEqual(cells_between(rule, [(0, 1)], 5, 3, 3), [0])

    def test_kinds_of_what_is_told(self):
        rule = Rule(*THREE)
        self.assertEqual({type(value) for value in cells_between(rule, [(0, 1)], 0, -2, 2)}, {int})
        self.assertEqual({type(value) for value in cells_between(rule, [(0, 1)], 9, -2, 2)}, {int})
        self.assertIs(type(cell_at(rule, [], 9, 0)), int)
        self.assertIs(type(cell_at(rule, [(0, 1)], 0, 0)), int)
        self.assertIs(type(ends_of(rule, [(0, 1)], 9)), tuple)
        for row in rows_until(rule, [(0, 1)], 4):
            self.assertIs(type(row), list)
            self.assertEqual({type(cell) for cell in row}, {tuple})

    def test_ends_of_near_rows(self):
        for rule, (prime, terms) in zip(rules(), SAMPLES):
            for row in begins(prime):
                for number, cells in enumerate(plain_rows(prime, terms, row, 40)):
                    with self.subTest(terms=terms, row=row, number=number):
                        self.assertEqual(ends_of(rule, row, number), (min(cells), max(cells)))


class CallsTest(unittest.TestCase):

    def test_by_position_and_by_name(self):
        rule, row = Rule(*THREE), [(0, 1), (3, 1)]
        self.assertEqual(cell_at(place=2, number=7, row=row, rule=rule), cell_at(rule, row, 7, 2))
        self.assertEqual(cells_between(high=4, low=-3, number=7, row=row, rule=rule),
                         cells_between(rule, row, 7, -3, 4))
        self.assertEqual(ends_of(number=7, row=row, rule=rule), ends_of(rule, row, 7))
        self.assertEqual(rows_until(number=7, row=row, rule=rule), rows_until(rule, row, 7))

    def test_passed_rows_stay(self):
        for rule in rules():
            for row in begins(rule.prime) + [[]]:
                kept = list(row)
                cell_at(rule, row, 9, 1)
                cells_between(rule, row, 9, -2, 5)
                ends_of(rule, row, 9)
                rows_until(rule, row, 9)
                self.assertEqual(row, kept)

    def test_told_lists_are_new(self):
        for rule in (Rule(*PAIRS), Rule(2, [(1, 0)])):
            row = [(0, 1), (1, 1)]
            rows = rows_until(rule, row, 4)
            kept = [list(one) for one in rows]
            self.assertEqual(len({id(one) for one in [row] + rows}), 6)
            for one in rows:
                one.append((99, 1))
            rows.clear()
            self.assertEqual(row, [(0, 1), (1, 1)])
            self.assertEqual(rows_until(rule, row, 4), kept)
            cells = cells_between(rule, row, 4, -1, 6)
            kept = list(cells)
            cells.clear()
            self.assertEqual(cells_between(rule, row, 4, -1, 6), kept)

    def test_a_told_row_may_be_passed_on(self):
        for rule in rules():
            row = rows_until(rule, begins(rule.prime)[4], 40)[40]
            low, high = ends_of(rule, row, 7)
            cells = dict(rows_until(rule, row, 7)[7])
            self.assertEqual(cells_between(rule, row, 7, low - 1, high + 1),
                             [cells.get(place, 0) for place in range(low - 1, high + 2)])


WRONG_ROWS = [
    ([(0, 0)], 0), ([(0, 3)], 0), ([(0, -1)], 0), ([(0, 1), (1, 1), (2, 5)], 2), ([(0, 1), (0, 2)], 1),
    ([(2, 1), (-1, 1), (-1, 0)], 1), ([(-FAR, 2), (0, 1), (-FAR, 1)], 2),
]


class RowErrorsTest(unittest.TestCase):

    def setUp(self):
        self.rule = Rule(3, [(1, 0), (2, 1)])

    def calls(self):
        """Return the functions as calls of a row and of a number that are right in all else."""
        return [
            lambda row, number: cell_at(self.rule, row, number, 0),
            lambda row, number: cells_between(self.rule, row, number, -1, 1),
            lambda row, number: ends_of(self.rule, row, number),
            lambda row, number: rows_until(self.rule, row, number),
        ]

    def test_row_check(self):
        for at, call in enumerate(self.calls()):
            for row, wrong in WRONG_ROWS:
                for number in (0, 1, 5):
                    kept = list(row)
                    with self.subTest(call=at, row=row, number=number):
                        self.assertEqual(raised(call, row, number), (InvalidRow, wrong))
                        self.assertEqual(row, kept)

    def test_row_check_goes_by_the_prime(self):
        for prime in (2, 3, 5):
            self.rule = Rule(prime, [(1, 0), (1, 1)])
            for call in self.calls():
                self.assertEqual(raised(call, [(-1, 1), (0, prime)], 2), (InvalidRow, 1))
                self.assertIsNone(raised(call, [(-1, 1), (0, prime - 1)], 2))

    def test_number_check(self):
        for at, call in enumerate(self.calls()):
            for row in ([], [(0, 1)], [(0, 1), (1, 2)]):
                for number in (-1, -2, -FARTHEST):
                    with self.subTest(call=at, row=row, number=number):
                        self.assertEqual(raised(call, row, number), (InvalidNumber, number))

    def test_stretch_check(self):
        for row in ([], [(0, 1)]):
            for number in (0, 7, FARTHEST):
                for low, high in ((1, 0), (0, -1), (5, -5), (FARTHEST, -FARTHEST)):
                    with self.subTest(row=row, number=number, low=low, high=high):
                        self.assertEqual(raised(cells_between, self.rule, row, number, low, high),
                                         (InvalidStretch, (low, high)))

    def test_the_first_of_several_errors(self):
        for call in self.calls():
            self.assertEqual(raised(call, [(0, 1), (0, 1)], -1), (InvalidRow, 1))
        self.assertEqual(raised(cells_between, self.rule, [(0, 0)], -1, 2, 1), (InvalidRow, 0))
        self.assertEqual(raised(cells_between, self.rule, [(0, 0)], 1, 2, 1), (InvalidRow, 0))
        self.assertEqual(raised(cells_between, self.rule, [(0, 1)], -1, 2, 1), (InvalidNumber, -1))

    def test_errors_of_arguments_by_name(self):
        rule = self.rule
        self.assertEqual(raised(cell_at, place=0, number=1, row=[(0, 3)], rule=rule), (InvalidRow, 0))
        self.assertEqual(raised(ends_of, number=-3, row=[], rule=rule), (InvalidNumber, -3))
        self.assertEqual(raised(rows_until, number=-3, row=[], rule=rule), (InvalidNumber, -3))
        self.assertEqual(raised(cells_between, high=1, low=2, number=3, row=[], rule=rule), (InvalidStretch, (2, 1)))

    def test_a_rule_stays_when_a_call_raises(self):
        for call in self.calls():
            raised(call, [(0, 3)], 1)
            raised(call, [(0, 1)], -1)
        self.assertEqual(self.rule, Rule(3, [(1, 0), (2, 1)]))


if __name__ == "__main__":
    unittest.main()
