"""Promises 42 to 49: rows that came before others, and the steps between rows."""

import unittest
from itertools import product

from grownrows.back import came_from, row_before, rows_back, steps_between
from grownrows.errors import InvalidNumber, InvalidRow
from grownrows.rows import rows_until
from grownrows.rules import Rule
from samples import FAR, FARTHEST, PAIRS, THREE, begins, moved, raised, row_of, rules, spread
from test_rows import WRONG_ROWS

EXPONENTS = {2: (1, 2, 40, 96), 3: (1, 2, 30, 60), 5: (1, 2, 20, 41)}


def few_cells(prime):
    """Return begins of none to eight cells, near and far."""
    rows = [[(5 * at + at % 3, 1 + at % (prime - 1)) for at in range(many)] for many in range(9)]
    return rows + [moved(rows[3], FAR - 40), moved(rows[8], -FAR)]


def wide_rules():
    """Return the rules of the samples that have several terms."""
    return [rule for rule in rules() if len(rule.terms) > 1]


def narrow_rules():
    """Return rules of one term, with the offset 0 and others, near and outermost."""
    return [Rule(*one) for one in ((2, [(1, 0)]), (2, [(1, -8)]), (3, [(2, 0)]), (3, [(1, 0)]), (3, [(2, 5)]),
                                   (5, [(2, 0)]), (5, [(4, 0)]), (5, [(3, -3)]), (5, [(4, 8)]))]


def changed(prime, row):
    """Return a row with something changed: each time a cell left out, added, moved or with another value."""
    first, last = row[0], row[-1]
    rows = [row[1:], row[:-1], row + [(last[0] + 1, 1)], [(first[0] - 2, prime - 1)] + row,
            row[:-1] + [(last[0] + 1, last[1])], moved(row, 1), moved(row, -3)]
    if prime > 2:
        rows.append([(first[0], first[1] % (prime - 1) + 1)] + row[1:])
        rows.append(row[:-1] + [(last[0], last[1] % (prime - 1) + 1)])
    return rows


class ExampleTest(unittest.TestCase):

    def test_the_example_of_the_document(self):
        pairs = Rule(2, [(1, 0), (1, 1)])
        self.assertEqual(row_before(pairs, [(0, 1), (2, 1)]), [(0, 1), (1, 1)])
        self.assertIsNone(row_before(pairs, [(0, 1)]))
        self.assertEqual(rows_back(pairs, [(0, 1), (2, 1)]), 2)
        self.assertEqual(came_from(pairs, [(0, 1), (2, 1)], 2), [(0, 1)])
        self.assertEqual(steps_between(pairs, [(0, 1)], [(0, 1), (2 ** 90, 1)]), 2 ** 90)
        self.assertEqual(steps_between(Rule(5, [(2, 0)]), [(7, 1)], [(7, 3)]), 3)
        self.assertIsNone(rows_back(Rule(5, [(2, 0)]), [(7, 1)]))


class RowBeforeTest(unittest.TestCase):

    def test_the_row_before_a_step(self):
        for rule in rules() + narrow_rules():
            for row in few_cells(rule.prime) + begins(rule.prime):
                after = rule.next_row(row)
                with self.subTest(terms=rule.terms, row=row):
                    self.assertEqual(row_before(rule, after), row)
                    self.assertEqual(came_from(rule, after, 1), row)
                    self.assertEqual(row_before(row=after, rule=rule), row)

    def test_any_row_within_few_places(self):
        for prime, terms, length in ((2, [(1, 0), (1, 1)], 7), (2, [(1, -1), (1, 0), (1, 3)], 7), (2, [(1, 2)], 4),
                                     (3, [(2, 0), (1, 1)], 5), (3, [(1, -2), (2, 1)], 5), (3, [(2, 0)], 4),
                                     (5, [(2, -1), (3, 0)], 4), (5, [(1, 0), (4, 2)], 4)):
            rule = Rule(prime, terms)
            # All rows that a step can make within these places, with the row of which it makes them.
            width = terms[-1][1] - terms[0][1]
            before = {}
            for values in product(range(prime), repeat=length - width):
                row = row_of({at - terms[0][1]: value for at, value in enumerate(values)})
                before[tuple(rule.next_row(row))] = row
            self.assertEqual(len(before), prime ** (length - width))
            for values in product(range(prime), repeat=length):
                row = row_of(dict(enumerate(values)))
                expected = before.get(tuple(row))
                self.assertEqual(row_before(rule, row), expected)
                self.assertEqual(came_from(rule, row, 1), expected)
                if row and len(terms) > 1:
                    self.assertEqual(rows_back(rule=rule, row=row) > 0, expected is not None)
                else:
                    self.assertIsNone(rows_back(rule=rule, row=row))

    def test_a_step_with_one_cell_changed(self):
        for rule in wide_rules():
            prime = rule.prime
            for row in few_cells(prime)[1:]:
                after = rule.next_row(row)
                cells = dict(after)
                for place in (after[0][0], after[-1][0], after[len(after) // 2][0] + 1):
                    other = row_of({**cells, place: (cells.get(place, 0) + 1) % prime})
                    # A single cell is what no step makes, so neither is the sum with one.
                    self.assertIsNone(row_before(rule, other))
                    self.assertIsNone(came_from(rule, other, 1))
                    self.assertEqual(rows_back(rule, other), 0)

    def test_told_lists_may_be_changed_and_rows_stay(self):
        for rule in rules():
            row = begins(rule.prime)[2]
            after = rule.next_row(row)
            kept = list(after)
            for told in (row_before(rule, after), came_from(rule, after, 1), came_from(rule, after, 0)):
                told.append((FAR, 1))
                told[0] = (0, 7)
            rows_back(rule, after)
            steps_between(rule, after, after)
            self.assertEqual(after, kept)
            self.assertEqual(row_before(rule, after), row)
            zeros = []
            row_before(rule, zeros).append((0, 1))
            came_from(rule, zeros, 0).append((0, 1))
            self.assertEqual((zeros, row_before(rule, [])), ([], []))


class RowsBackTest(unittest.TestCase):

    def test_the_steps_that_were_made(self):
        for rule in wide_rules():
            for row in few_cells(rule.prime)[1:] + begins(rule.prime):
                if row_before(rule, row) is None:
                    for number, later in enumerate(rows_until(rule, row, 40)):
                        with self.subTest(terms=rule.terms, row=row, number=number):
                            self.assertEqual(rows_back(rule, later), number)
                            self.assertEqual(came_from(rule, later, number), row)
                            self.assertIsNone(came_from(rule, later, number + 1))

    def test_no_greatest_number(self):
        for rule in rules() + narrow_rules():
            self.assertIsNone(rows_back(rule, []))
        for rule in narrow_rules():
            for row in few_cells(rule.prime) + begins(rule.prime):
                self.assertIsNone(rows_back(rule, row))

    def test_a_single_cell(self):
        for rule in wide_rules():
            for place in (0, -FAR, FAR):
                told = rows_back(rule, [(place, 1)])
                self.assertEqual(told, 0)
                self.assertIs(type(told), int)


class CameFromTest(unittest.TestCase):

    def test_near_rows(self):
        for rule in rules() + narrow_rules():
            for row in few_cells(rule.prime):
                rows = rows_until(rule, row, 40)
                for number in (0, 1, 2, 5, 8, 9, 16, 25, 27, 31, 40):
                    for steps in (0, 1, number // 2, number):
                        if steps <= number:
                            self.assertEqual(came_from(rule, rows[number], steps), rows[number - steps])
                self.assertEqual(came_from(number=3, row=rows[9], rule=rule), rows[6])

    def test_far_numbers(self):
        for rule in wide_rules():
            for row in few_cells(rule.prime)[1:]:
                for number in (41, 10 ** 6, rule.prime ** 40, FAR, FARTHEST):
                    self.assertIsNone(came_from(rule, row, number))
        for rule in rules() + narrow_rules():
            for number in (0, 1, 40, rule.prime ** 40, FAR, FARTHEST):
                self.assertEqual(came_from(rule, [], number), [])

    def test_the_row_itself(self):
        for rule in rules() + narrow_rules():
            for row in few_cells(rule.prime):
                told = came_from(rule, row, 0)
                self.assertEqual(told, row)
                self.assertIsNot(told, row)


class NearStepsTest(unittest.TestCase):

    def test_near_rows(self):
        for rule in wide_rules():
            for row in few_cells(rule.prime)[1:]:
                rows = rows_until(rule, row, 40)
                for number in (0, 1, 2, 3, 8, 9, 24, 25, 40):
                    with self.subTest(terms=rule.terms, row=row, number=number):
                        self.assertEqual(steps_between(rule, row, rows[number]), number)
                        self.assertEqual(steps_between(rule, rows[2], rows[number]), number - 2 if number > 1 else None)
                        self.assertEqual(steps_between(other_row=rows[number], row=row, rule=rule), number)

    def test_other_rows(self):
        for rule in wide_rules():
            for row in few_cells(rule.prime)[1:]:
                rows = rows_until(rule, row, 30)
                for number in (0, 1, 3, 9, 25):
                    for other in changed(rule.prime, rows[number]):
                        expected = rows.index(other) if other in rows else None
                        self.assertEqual(steps_between(rule, row, other), expected)

    def test_the_row_of_zeros(self):
        for rule in rules() + narrow_rules():
            self.assertEqual(steps_between(rule, [], []), 0)
            for row in few_cells(rule.prime)[1:]:
                self.assertIsNone(steps_between(rule, [], row))
                self.assertIsNone(steps_between(rule, row, []))
                self.assertEqual(steps_between(rule, row, list(row)), 0)

    def test_rows_stay(self):
        for rule in rules():
            row, other = begins(rule.prime)[2], rule.next_row(begins(rule.prime)[2])
            kept, other_kept = list(row), list(other)
            steps_between(rule, row, other)
            steps_between(rule, other, row)
            self.assertEqual((row, other), (kept, other_kept))


class FarStepsTest(unittest.TestCase):

    def test_powers_of_the_prime(self):
        for rule in wide_rules():
            prime, terms = rule.prime, rule.terms
            for row in few_cells(prime)[1:] + begins(prime)[1:3]:
                for exponent in EXPONENTS[prime]:
                    power = prime ** exponent
                    far = spread(prime, terms, row, power)
                    with self.subTest(terms=terms, row=row, exponent=exponent):
                        self.assertEqual(steps_between(rule, row, far), power)
                        self.assertIsNone(steps_between(rule, far, row))
                        for other in changed(prime, far):
                            self.assertEqual(steps_between(rule, row, other), 0 if other == row else None)

    def test_sums_of_two_powers(self):
        for rule in wide_rules():
            prime, terms = rule.prime, rule.terms
            for row in few_cells(prime)[1:4]:
                for low, high in ((0, 30), (1, 40), (20, 41)):
                    near = spread(prime, terms, row, prime ** low)
                    far = spread(prime, terms, near, prime ** high)
                    self.assertEqual(steps_between(rule, row, far), prime ** low + prime ** high)
                    self.assertEqual(steps_between(rule, near, far), prime ** high)
                    self.assertEqual(steps_between(rule, spread(prime, terms, row, prime ** high), far), prime ** low)
                    for other in changed(prime, far):
                        self.assertIsNone(steps_between(rule, row, other))
                        self.assertEqual(steps_between(rule, near, other), 0 if other == near else None)

    def test_from_the_row_of_a_lesser_power(self):
        for rule in wide_rules():
            prime, terms = rule.prime, rule.terms
            # As many steps as the prime times a power are that power of steps, so many times.
            for row in few_cells(prime)[1:3]:
                for exponent in (1, 20, 40):
                    lesser = spread(prime, terms, row, prime ** exponent)
                    greater = spread(prime, terms, row, prime ** (exponent + 1))
                    self.assertEqual(steps_between(rule, lesser, greater), (prime - 1) * prime ** exponent)
                    self.assertIsNone(steps_between(rule, greater, lesser))

    def test_rows_with_the_ends_alone(self):
        pairs, three = Rule(*PAIRS), Rule(*THREE)
        power = 2 ** 90
        self.assertIsNone(steps_between(pairs, [(0, 1)], [(0, 1), (power + 1, 1)]))
        self.assertIsNone(steps_between(pairs, [(0, 1)], [(0, 1), (power - 1, 1)]))
        self.assertEqual(steps_between(three, [(0, 1)], [(-power, 1), (0, 1), (power, 1)]), power)
        self.assertIsNone(steps_between(three, [(0, 1)], [(-power, 1), (power, 1)]))
        self.assertIsNone(steps_between(three, [(0, 1)], [(1 - power, 1), (1, 1), (power + 1, 1)]))
        self.assertIsNone(steps_between(Rule(3, [(1, 0), (1, 2)]), [(0, 1)], [(0, 1), (1, 1)]))


class OneTermTest(unittest.TestCase):

    def test_a_move_and_its_factor(self):
        for rule in narrow_rules():
            prime, (coefficient, offset) = rule.prime, rule.terms[0]
            for row in few_cells(prime)[1:]:
                for number in (0, 1, 2, 3, 4, 5, 40, FAR - 1, FAR):
                    factor = pow(coefficient, number, prime)
                    other = [(place + number * offset, value * factor % prime) for place, value in row]
                    least = number
                    if offset == 0:
                        least = [pow(coefficient, steps, prime) for steps in range(prime)].index(factor)
                    with self.subTest(terms=rule.terms, row=row, number=number):
                        self.assertEqual(steps_between(rule, row, other), least)
                        self.assertEqual(came_from(rule, other, number), row)
                        self.assertEqual(steps_between(other_row=other, row=row, rule=rule), least)
                        if number == 1:
                            self.assertEqual(row_before(rule, other), row)

    def test_rows_that_it_never_becomes(self):
        for rule in narrow_rules():
            prime, (coefficient, offset) = rule.prime, rule.terms[0]
            for row in few_cells(prime)[1:]:
                self.assertIsNone(steps_between(rule, row, row + [(row[-1][0] + 1, 1)]))
                if len(row) > 1:
                    self.assertIsNone(steps_between(rule, row, row[:-1]))
                if abs(offset) != 1:
                    self.assertIsNone(steps_between(rule, row, moved(row, 1)))
                if offset != 0:
                    self.assertIsNone(steps_between(rule, row, moved(row, -FAR * offset)))
                    if prime > 2:
                        wrong = [(place + offset, value * (coefficient % (prime - 1) + 1) % prime)
                                 for place, value in row]
                        self.assertIsNone(steps_between(rule, row, wrong))
        # The powers of 4, modulo 5, are 1 and 4.
        self.assertIsNone(steps_between(Rule(5, [(4, 0)]), [(3, 1)], [(3, 2)]))
        self.assertEqual(steps_between(Rule(5, [(4, 0)]), [(3, 2)], [(3, 3)]), 1)
        self.assertIsNone(steps_between(Rule(3, [(1, 0)]), [(3, 1)], [(3, 2)]))

    def test_no_number_is_too_great(self):
        for rule in narrow_rules():
            prime, (coefficient, offset) = rule.prime, rule.terms[0]
            for number in (FAR, FARTHEST):
                told = came_from(rule, [(-4, 1), (9, prime - 1)], number)
                factor = pow(coefficient, number, prime)
                self.assertEqual([place + number * offset for place, _ in told], [-4, 9])
                self.assertEqual([value * factor % prime for _, value in told], [1, prime - 1])


class BackErrorsTest(unittest.TestCase):

    def setUp(self):
        self.rule = Rule(3, [(1, 0), (2, 1)])

    def test_row_check(self):
        rule = self.rule
        for row, wrong in WRONG_ROWS:
            kept = list(row)
            for call in (row_before, rows_back):
                self.assertEqual(raised(call, rule, row), (InvalidRow, wrong))
                self.assertEqual(raised(call, row=row, rule=rule), (InvalidRow, wrong))
            for number in (0, 3, -1):
                self.assertEqual(raised(came_from, rule, row, number), (InvalidRow, wrong))
            for other in ([], [(0, 1)]):
                self.assertEqual(raised(steps_between, rule, row, other), (InvalidRow, wrong))
                self.assertEqual(raised(steps_between, rule, other, row), (InvalidRow, wrong))
                self.assertEqual(raised(steps_between, other_row=other, row=row, rule=rule), (InvalidRow, wrong))
            self.assertEqual(row, kept)

    def test_the_first_row_first(self):
        self.assertEqual(raised(steps_between, self.rule, [(0, 1), (0, 1)], [(0, 3)]), (InvalidRow, 1))
        self.assertEqual(raised(steps_between, self.rule, [(0, 3)], [(0, 1), (0, 1)]), (InvalidRow, 0))
        self.assertEqual(raised(steps_between, other_row=[(0, 0)], row=[(0, 1), (-1, 1)], rule=self.rule),
                         (InvalidRow, 1))

    def test_number_check(self):
        for rule in (self.rule, Rule(5, [(2, 1)])):
            for row in ([], [(0, 1)], [(0, 1), (1, 2)]):
                for number in (-1, -FARTHEST):
                    self.assertEqual(raised(came_from, rule, row, number), (InvalidNumber, number))
                    self.assertEqual(raised(came_from, number=number, row=row, rule=rule), (InvalidNumber, number))
        self.assertEqual(raised(came_from, self.rule, [(0, 1), (0, 1)], -1), (InvalidRow, 1))

    def test_right_ones_raise_nothing(self):
        for rule in rules():
            for row in few_cells(rule.prime):
                self.assertIsNone(raised(row_before, rule, row))
                self.assertIsNone(raised(rows_back, rule, row))
                self.assertIsNone(raised(came_from, rule, row, FAR))
                self.assertIsNone(raised(steps_between, rule, row, row))


if __name__ == "__main__":
    unittest.main()
