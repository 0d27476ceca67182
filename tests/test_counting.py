"""Promises 11 and 14: counting in near rows, and the errors of all functions of counting."""

import unittest

from grownrows.counting import count_between, count_row, nth_place, place_index
from grownrows.errors import InvalidNumber, InvalidRow, InvalidStretch, InvalidValue
from grownrows.gaps import count_gaps, gap_at, longest_gap
from grownrows.rules import Rule
from samples import FAR, FARTHEST, PAIRS, SAMPLES, THREE, begins, plain_rows, raised, row_of, rules
from test_rows import WRONG_ROWS

NEAR_NUMBERS = (0, 1, 2, 3, 4, 5, 8, 9, 16, 24, 25, 26, 27, 31, 32, 33, 49, 50)


class ExampleTest(unittest.TestCase):

    def test_the_example_of_the_document(self):
        pairs, begin = Rule(2, [(1, 0), (1, 1)]), [(0, 1)]
        self.assertEqual(count_row(pairs, begin, 2 ** 90 + 1, 1), 4)
        self.assertEqual(nth_place(pairs, begin, 2 ** 90 + 1, 1, 2), 2 ** 90)
        self.assertEqual(place_index(pairs, begin, 5, 4), 2)
        self.assertIsNone(place_index(pairs, begin, 5, 2))
        self.assertEqual(count_between(pairs, begin, 5, 0, -2, 5), 4)
        self.assertEqual(longest_gap(pairs, begin, 6), (1, 1))
        self.assertEqual(count_gaps(pairs, begin, 6, 1), 3)
        self.assertEqual(gap_at(pairs, begin, 5, 3), (2, 2))
        self.assertIsNone(longest_gap(pairs, begin, 3))


class NearRowsTest(unittest.TestCase):

    def near_rows(self, middle=0):
        """Return tuples (rule, begin, number, row) with the rows as lists of tuples."""
        near = []
        for rule, (prime, terms) in zip(rules(), SAMPLES):
            for begin in begins(prime, middle):
                rows = plain_rows(prime, terms, begin, NEAR_NUMBERS[-1])
                near.extend((rule, begin, number, row_of(rows[number])) for number in NEAR_NUMBERS)
        return near

    def test_whole_rows(self):
        for rule, begin, number, row in self.near_rows():
            for value in range(1, rule.prime):
                with self.subTest(terms=rule.terms, begin=begin, number=number, value=value):
                    places = [place for place, one in row if one == value]
                    self.assertEqual(count_row(rule, begin, number, value), len(places))
                    for index in range(0, len(places), len(places) // 4 + 1):
                        self.assertEqual(nth_place(rule, begin, number, value, index), places[index])
                        self.assertEqual(place_index(rule, begin, number, places[index]), index)

    def test_all_cells_of_some_rows(self):
        for rule, begin, number, row in self.near_rows():
            if begin != begins(rule.prime)[2] or number not in (0, 1, 5, 26, 33, 50):
                continue
            seen = {}
            for place in range(row[0][0] - 2, row[-1][0] + 3):
                value = dict(row).get(place, 0)
                index = seen.get(value, 0)
                seen[value] = index + 1
                with self.subTest(terms=rule.terms, number=number, place=place):
                    self.assertEqual(place_index(rule, begin, number, place), index if value else None)
                    if value:
                        self.assertEqual(nth_place(rule, begin, number, value, index), place)

    def test_stretches_within_beside_and_beyond_rows(self):
        for rule, begin, number, row in self.near_rows():
            first, last = row[0][0], row[-1][0]
            middle = (first + last) // 2
            stretches = [(first, last), (first - 4, last + 9), (middle, middle), (first - 7, first - 1),
                         (first, middle), (last, last), (last + 1, last + 5), (middle, last + 3), (first - 1, first)]
            for low, high in stretches:
                told = [count_between(rule, begin, number, value, low, high) for value in range(rule.prime)]
                values = [value for place, value in row if low <= place <= high]
                zeros = high - low + 1 - len(values)
                with self.subTest(terms=rule.terms, begin=begin, number=number, low=low, high=high):
                    self.assertEqual(told, [zeros] + [values.count(value) for value in range(1, rule.prime)])

    def test_near_rows_of_far_begins(self):
        for rule, begin, number, row in self.near_rows(-FAR + 20):
            if number not in (0, 5, 27):
                continue
            first, last = row[0][0], row[-1][0]
            for value in range(1, rule.prime):
                places = [place for place, one in row if one == value]
                self.assertEqual(count_row(rule, begin, number, value), len(places))
                self.assertEqual(count_between(rule, begin, number, value, first + 1, last + FAR),
                                 len([place for place in places if place > first]))
                if places:
                    self.assertEqual(nth_place(rule, begin, number, value, len(places) - 1), places[-1])
                    self.assertEqual(place_index(rule, begin, number, places[-1]), len(places) - 1)

    def test_the_row_of_zeros(self):
        for rule in rules():
            for number in (0, 1, 50, FARTHEST):
                self.assertEqual(count_between(rule, [], number, 0, -5, 20), 26)
                self.assertEqual(count_between(rule, [], number, 0, -FARTHEST, FARTHEST), 2 * FARTHEST + 1)
                self.assertIsNone(place_index(rule, [], number, 0))
                for value in range(1, rule.prime):
                    self.assertEqual(count_between(rule, [], number, value, -5, 20), 0)
                    self.assertEqual(count_row(rule, [], number, value), 0)
                    for index in (0, -1, 5):
                        self.assertEqual(raised(nth_place, rule, [], number, value, index), (InvalidNumber, index))

    def test_kinds_of_what_is_told(self):
        rule, begin = Rule(*THREE), [(0, 1), (4, 1)]
        for row in (begin, []):
            for number in (0, 7, FAR):
                self.assertIs(type(count_between(rule, row, number, 0, -3, 9)), int)
                self.assertIs(type(count_between(rule, row, number, 1, -3, 9)), int)
                self.assertIs(type(count_row(rule, row, number, 1)), int)
        self.assertIs(type(nth_place(rule, begin, 7, 1, 0)), int)
        self.assertIs(type(place_index(rule, begin, 0, 0)), int)


class CallsTest(unittest.TestCase):

    def test_by_position_and_by_name(self):
        rule, row = Rule(3, [(1, 0), (2, 1)]), [(0, 1), (3, 2)]
        self.assertEqual(count_between(high=9, low=-1, value=2, number=7, row=row, rule=rule),
                         count_between(rule, row, 7, 2, -1, 9))
        self.assertEqual(count_row(value=1, number=7, row=row, rule=rule), count_row(rule, row, 7, 1))
        self.assertEqual(nth_place(index=1, value=2, number=7, row=row, rule=rule), nth_place(rule, row, 7, 2, 1))
        self.assertEqual(place_index(place=7, number=7, row=row, rule=rule), place_index(rule, row, 7, 7))

    def test_passed_rows_stay(self):
        for rule in rules():
            for row in begins(rule.prime) + [[]]:
                kept = list(row)
                for number in (0, 9, FAR):
                    count_between(rule, row, number, 0, -2, 5)
                    count_row(rule, row, number, 1)
                    raised(nth_place, rule, row, number, 1, 0)
                    place_index(rule, row, number, 1)
                self.assertEqual(row, kept)


class CountingErrorsTest(unittest.TestCase):

    def setUp(self):
        self.rule = Rule(3, [(1, 0), (2, 1)])

    def calls(self):
        """Return the functions as calls of a row and of a number that are right in all else."""
        return [
            lambda row, number: count_between(self.rule, row, number, 1, -1, 1),
            lambda row, number: count_row(self.rule, row, number, 1),
            lambda row, number: nth_place(self.rule, row, number, 1, 0),
            lambda row, number: place_index(self.rule, row, number, 0),
        ]

    def test_row_check(self):
        for at, call in enumerate(self.calls()):
            for row, wrong in WRONG_ROWS:
                for number in (0, 1, 5):
                    kept = list(row)
                    with self.subTest(call=at, row=row, number=number):
                        self.assertEqual(raised(call, row, number), (InvalidRow, wrong))
                        self.assertEqual(row, kept)

    def test_number_check(self):
        for at, call in enumerate(self.calls()):
            for row in ([], [(0, 1)], [(0, 1), (1, 2)]):
                for number in (-1, -2, -FARTHEST):
                    with self.subTest(call=at, row=row, number=number):
                        self.assertEqual(raised(call, row, number), (InvalidNumber, number))

    def test_value_check(self):
        for prime in (2, 3, 5):
            rule = Rule(prime, [(1, 0), (1, 1)])
            for row in ([], [(0, 1)]):
                for number in (0, 7, FARTHEST):
                    for value in (-FARTHEST, -1, prime, prime + 1, FARTHEST):
                        self.assertEqual(raised(count_between, rule, row, number, value, 0, 1), (InvalidValue, value))
                        self.assertEqual(raised(count_row, rule, row, number, value), (InvalidValue, value))
                        self.assertEqual(raised(nth_place, rule, row, number, value, 0), (InvalidValue, value))
                    self.assertIsNone(raised(count_between, rule, row, number, 0, 0, 1))
                    self.assertEqual(raised(count_row, rule, row, number, 0), (InvalidValue, 0))
                    self.assertEqual(raised(nth_place, rule, row, number, 0, 0), (InvalidValue, 0))
                    for value in range(1, prime):
                        self.assertIsNone(raised(count_between, rule, row, number, value, 0, 1))
                        self.assertIsNone(raised(count_row, rule, row, number, value))

    def test_stretch_check(self):
        for row in ([], [(0, 1)]):
            for number in (0, 7, FARTHEST):
                for value in (0, 1, 2):
                    for low, high in ((1, 0), (0, -1), (5, -5), (FARTHEST, -FARTHEST)):
                        self.assertEqual(raised(count_between, self.rule, row, number, value, low, high),
                                         (InvalidStretch, (low, high)))

    def test_indexes_that_no_cell_has(self):
        for rule in rules():
            for number in (0, 1, 7, FAR, FARTHEST):
                row = begins(rule.prime)[2]
                for value in range(1, rule.prime):
                    many = count_row(rule, row, number, value)
                    for index in (-FARTHEST, -2, -1, many, many + 1, FARTHEST * 10 ** 3):
                        self.assertEqual(raised(nth_place, rule, row, number, value, index), (InvalidNumber, index))
                    if many > 0:
                        self.assertIsNone(raised(nth_place, rule, row, number, value, many - 1))

    def test_the_first_of_several_errors(self):
        rule = self.rule
        for call in self.calls():
            self.assertEqual(raised(call, [(0, 1), (0, 1)], -1), (InvalidRow, 1))
        self.assertEqual(raised(count_between, rule, [(0, 0)], -1, 3, 2, 1), (InvalidRow, 0))
        self.assertEqual(raised(count_between, rule, [(0, 1)], -1, 3, 2, 1), (InvalidNumber, -1))
        self.assertEqual(raised(count_between, rule, [(0, 1)], -1, 0, 2, 1), (InvalidNumber, -1))
        self.assertEqual(raised(count_between, rule, [(0, 1)], 1, 3, 2, 1), (InvalidValue, 3))
        self.assertEqual(raised(count_between, rule, [], 1, -1, 2, 1), (InvalidValue, -1))
        self.assertEqual(raised(count_row, rule, [(0, 3)], 1, 0), (InvalidRow, 0))
        self.assertEqual(raised(count_row, rule, [(0, 1)], -4, 0), (InvalidNumber, -4))
        self.assertEqual(raised(nth_place, rule, [(0, 3)], -4, 0, -9), (InvalidRow, 0))
        self.assertEqual(raised(nth_place, rule, [(0, 1)], -4, 0, -9), (InvalidNumber, -4))
        self.assertEqual(raised(nth_place, rule, [(0, 1)], 4, 0, -9), (InvalidValue, 0))
        self.assertEqual(raised(nth_place, rule, [], 4, 3, 0), (InvalidValue, 3))

    def test_errors_of_arguments_by_name(self):
        rule = self.rule
        self.assertEqual(raised(count_between, high=1, low=2, value=0, number=3, row=[], rule=rule),
                         (InvalidStretch, (2, 1)))
        self.assertEqual(raised(count_row, value=0, number=3, row=[], rule=rule), (InvalidValue, 0))
        self.assertEqual(raised(nth_place, index=1, value=1, number=0, row=[(5, 1)], rule=rule), (InvalidNumber, 1))
        self.assertEqual(raised(place_index, place=0, number=-3, row=[], rule=rule), (InvalidNumber, -3))

    def test_a_rule_stays_when_a_call_raises(self):
        rule = Rule(*PAIRS)
        raised(count_row, rule, [(0, 1)], 5, 2)
        raised(nth_place, rule, [(0, 1)], 5, 1, 99)
        self.assertEqual(rule, Rule(*PAIRS))
        self.assertEqual(count_row(rule, [(0, 1)], 5, 1), 4)


if __name__ == "__main__":
    unittest.main()
