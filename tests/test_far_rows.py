"""Promises 7, 8 and 9: far rows."""

import unittest

from grownrows.rows import cell_at, cells_between, ends_of, rows_until
from grownrows.rules import Rule
from samples import (FAR, FARTHEST, PAIRS, POWERS, added, begins, binomial, far_lows, far_numbers, plain_rows, row_of,
                     rules)


class FarCellsTest(unittest.TestCase):

    def test_binomial_coefficients(self):
        for prime in (2, 3, 5):
            rule = Rule(prime, [(1, 0), (1, 1)])
            for number in far_numbers(prime):
                power = POWERS[prime]
                for place in (-1, 0, 1, 2, number // 3, number // 2, power, number - power, number, number + 1):
                    with self.subTest(prime=prime, number=number, place=place):
                        self.assertEqual(cell_at(rule, [(0, 1)], number, place), binomial(prime, number, place))

    def test_stretches_of_200_binomial_coefficients(self):
        for prime in (2, 3, 5):
            for factor in range(1, prime):
                rule = Rule(prime, [(1, -1), (factor, 2)])
                for number in far_numbers(prime)[:5]:
                    for low in far_lows(rule, [(0, 1)], number):
                        told = cells_between(rule, [(0, 1)], number, low, low + 199)
                        with self.subTest(prime=prime, factor=factor, number=number, low=low):
                            self.assertEqual(told, [drawn_out(prime, factor, number, place)
                                                    for place in range(low, low + 200)])

    def test_a_cell_is_the_stretch_of_it_alone(self):
        for rule in rules():
            for number in far_numbers(rule.prime)[:4]:
                for row in begins(rule.prime, 17)[2:]:
                    for low in far_lows(rule, row, number):
                        told = cells_between(rule, row, number, low, low + 20)
                        self.assertEqual([cell_at(rule, row, number, place) for place in range(low, low + 21)], told)

    def test_rows_some_hundred_steps_away(self):
        for prime, terms in ((2, [(1, -2), (1, 0), (1, 1)]), (3, [(2, 1), (1, 2)]), (5, [(4, -1), (3, 0), (1, 1)])):
            row = begins(prime)[2]
            rows = plain_rows(prime, terms, row, 260)
            for number in (41, 63, 64, 65, 80, 81, 82, 124, 125, 126, 127, 128, 242, 243, 244, 255, 256, 257, 260):
                cells = rows[number]
                low, high = min(cells) - 2, max(cells) + 2
                with self.subTest(prime=prime, number=number):
                    self.assertEqual(cells_between(Rule(prime, terms), row, number, low, high),
                                     [cells.get(place, 0) for place in range(low, high + 1)])

    def test_rules_of_one_term(self):
        for prime, coefficient, offset in ((2, 1, -8), (3, 2, 0), (3, 2, 5), (5, 2, -3), (5, 4, 8), (5, 1, 1)):
            rule = Rule(prime, [(coefficient, offset)])
            for number in far_numbers(prime):
                row = begins(prime, -FAR + 20)[2]
                factor = pow(coefficient, number, prime)
                shift = number * offset
                low, high = row[0][0] + shift - 5, row[-1][0] + shift + 5
                cells = {place + shift: value * factor % prime for place, value in row}
                self.assertEqual(cells_between(rule, row, number, low, high),
                                 [cells.get(place, 0) for place in range(low, high + 1)])

    def test_places_that_nothing_reaches_are_0(self):
        for rule in rules():
            for row in begins(rule.prime):
                for number in far_numbers(rule.prime):
                    first, last = ends_of(rule, row, number)
                    self.assertEqual(cells_between(rule, row, number, first - 60, first - 1), [0] * 60)
                    self.assertEqual(cells_between(rule, row, number, last + 1, last + 60), [0] * 60)
                    self.assertEqual(cell_at(rule, row, number, first - FARTHEST), 0)
                    self.assertEqual(cell_at(rule, row, number, last + FARTHEST), 0)

    def test_the_widest_begins_and_stretches_at_the_bounds(self):
        # Each of these would go on for ever if the work grew with the number or with the places.
        for prime, span in ((2, 4), (3, 3), (5, 2)):
            for least in (-8, 0, 8 - span):
                rule = Rule(prime, [(prime - 1, least + at) for at in range(span + 1)])
                for row in (begins(prime, FAR - 20)[4], begins(prime, -FAR + 20)[4]):
                    for low in (-FARTHEST, 0, FARTHEST - 199):
                        told = cells_between(rule, row, FARTHEST, low, low + 199)
                        self.assertEqual(len(told), 200)
                        self.assertLessEqual(set(told), set(range(prime)))


class FarGuaranteesTest(unittest.TestCase):

    def test_a_cell_is_the_sum_of_what_it_is_given(self):
        for rule in rules():
            for row in begins(rule.prime, -5):
                for number in far_numbers(rule.prime)[:5]:
                    for low in far_lows(rule, row, number):
                        before = cells_between(rule, row, number, low - 8, low + 28)
                        given = [sum(coefficient * before[at + 8 - offset] for coefficient, offset in rule.terms)
                                 % rule.prime for at in range(21)]
                        with self.subTest(terms=rule.terms, row=row, number=number, low=low):
                            self.assertEqual(cells_between(rule, row, number + 1, low, low + 20), given)

    def test_after_as_many_steps_as_a_power_of_the_prime(self):
        for rule in rules():
            for power in (rule.prime, rule.prime ** 2, rule.prime ** 3, POWERS[rule.prime]):
                for row in begins(rule.prime, 3):
                    spread = {}
                    for place, value in row:
                        for coefficient, offset in rule.terms:
                            taker = place + power * offset
                            spread[taker] = (spread.get(taker, 0) + coefficient * value) % rule.prime
                    for place in spread:
                        told = cells_between(rule, row, power, place - 2, place + 2)
                        with self.subTest(terms=rule.terms, power=power, row=row, place=place):
                            self.assertEqual(told, [spread.get(at, 0) for at in range(place - 2, place + 3)])

    def test_sums_of_begins(self):
        for rule in rules():
            row, other_row = begins(rule.prime, 1)[2], begins(rule.prime, 4)[4]
            both = added(rule.prime, row, other_row)
            for number in far_numbers(rule.prime):
                for low in far_lows(rule, other_row, number):
                    cells = cells_between(rule, row, number, low, low + 40)
                    other_cells = cells_between(rule, other_row, number, low, low + 40)
                    sums = [(one + other) % rule.prime for one, other in zip(cells, other_cells)]
                    self.assertEqual(cells_between(rule, both, number, low, low + 40), sums)

    def test_a_later_row_as_begin(self):
        for rule in rules():
            row = begins(rule.prime, -2)[2]
            rows = rows_until(rule, row, 9)
            for number in far_numbers(rule.prime):
                for low in far_lows(rule, row, number):
                    told = cells_between(rule, row, number, low, low + 30)
                    for later in (1, 4, 9):
                        self.assertEqual(cells_between(rule, rows[later], number - later, low, low + 30), told)

    def test_a_moved_begin_grows_moved_rows(self):
        for rule in rules():
            for number in far_numbers(rule.prime)[:3]:
                near, far = begins(rule.prime)[4], begins(rule.prime, FAR - 20)[4]
                for low in far_lows(rule, near, number):
                    moved = low + FAR - 20
                    self.assertEqual(cells_between(rule, far, number, moved, moved + 50),
                                     cells_between(rule, near, number, low, low + 50))

    def test_a_mirrored_rule_grows_mirrored_rows(self):
        for rule in rules():
            row = begins(rule.prime, 6)[2]
            turned = row_of({-place: value for place, value in row})
            for number in far_numbers(rule.prime)[:5]:
                for low in far_lows(rule, row, number):
                    told = cells_between(rule, row, number, low, low + 30)
                    self.assertEqual(cells_between(rule.mirrored(), turned, number, -low - 30, -low), told[::-1])


class FarEndsTest(unittest.TestCase):

    def test_ends(self):
        for rule in rules():
            offsets = [offset for _, offset in rule.terms]
            for middle in (0, FAR - 20, -FAR + 20):
                for row in begins(rule.prime, middle):
                    for number in far_numbers(rule.prime):
                        ends = (row[0][0] + number * min(offsets), row[-1][0] + number * max(offsets))
                        self.assertEqual(ends_of(rule, row, number), ends)

    def test_the_outermost_cells_are_not_0(self):
        for rule in rules():
            for row in begins(rule.prime, 11):
                for number in far_numbers(rule.prime):
                    first, last = ends_of(rule, row, number)
                    self.assertNotEqual(cell_at(rule, row, number, first), 0)
                    self.assertNotEqual(cell_at(rule, row, number, last), 0)
                    self.assertEqual(cell_at(rule, row, number, first - 1), 0)
                    self.assertEqual(cell_at(rule, row, number, last + 1), 0)

    def test_terms_in_any_sequence(self):
        prime, terms = PAIRS
        self.assertEqual(ends_of(Rule(prime, terms[::-1]), [(2, 1)], FAR), (2, FAR + 2))


def drawn_out(prime, factor, number, place):
    """Return a cell that grows from a single 1 at place 0 by the terms (1, -1) and (factor, 2)."""
    taken, rest = divmod(place + number, 3)
    if rest or taken < 0:
        return 0
    return binomial(prime, number, taken) * pow(factor, taken, prime) % prime


if __name__ == "__main__":
    unittest.main()
