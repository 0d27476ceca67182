"""Promises 15 to 17: gaps of near and of far rows, and the errors of all functions of gaps."""

import unittest

from grownrows.errors import InvalidNumber, InvalidRow
from grownrows.gaps import count_gaps, gap_at, longest_gap
from grownrows.rows import cell_at, cells_between, ends_of
from grownrows.rules import Rule
from samples import (FAR, FARTHEST, PAIRS, POWERS, SAMPLES, THREE, begins, far_lows, far_numbers, gaps_of, plain_rows,
                     raised, row_of, rules)
from test_rows import WRONG_ROWS

NEAR_NUMBERS = (0, 1, 2, 3, 4, 5, 8, 9, 16, 25, 26, 27, 31, 32, 33, 48, 49, 50, 54, 59, 60)


class NearGapsTest(unittest.TestCase):

    def near_rows(self, middle=0):
        """Return tuples (rule, begin, number, row) with the rows as lists of tuples."""
        near = []
        for rule, (prime, terms) in zip(rules(), SAMPLES):
            for begin in begins(prime, middle):
                rows = plain_rows(prime, terms, begin, NEAR_NUMBERS[-1])
                near.extend((rule, begin, number, row_of(rows[number])) for number in NEAR_NUMBERS)
        return near

    def test_longest_gaps(self):
        for rule, begin, number, row in self.near_rows():
            gaps = gaps_of(row)
            length = max([gap[0] for gap in gaps], default=0)
            expected = next((gap for gap in gaps if gap[0] == length), None)
            with self.subTest(terms=rule.terms, begin=begin, number=number):
                self.assertEqual(longest_gap(rule, begin, number), expected)

    def test_the_first_one_of_several_longest_gaps(self):
        one = Rule(2, [(1, 0)])
        row = [(0, 1), (2, 1), (5, 1), (7, 1), (10, 1), (13, 1)]
        self.assertEqual(longest_gap(one, row, 4), (2, 3))
        self.assertEqual(longest_gap(one, [(1, 1), (3, 1), (5, 1)], 0), (1, 2))
        # The two longest ones of row 3 * 64 lie in blocks far from one another.
        self.assertEqual(longest_gap(Rule(*PAIRS), [(0, 1)], 3 * 64), (63, 1))
        self.assertEqual(longest_gap(Rule(*PAIRS), [(0, 1)], 3 * 2 ** 80), (2 ** 80 - 1, 1))

    def test_count_gaps(self):
        for rule, begin, number, row in self.near_rows():
            lengths = [gap[0] for gap in gaps_of(row)]
            for least in {1, 2, 3, max(lengths, default=1), max(lengths, default=1) + 1, FARTHEST}:
                with self.subTest(terms=rule.terms, begin=begin, number=number, least=least):
                    self.assertEqual(count_gaps(rule, begin, number, least),
                                     len([length for length in lengths if length >= least]))

    def test_gap_at_all_places(self):
        for rule, begin, number, row in self.near_rows(-FAR + 20):
            if begin == begins(rule.prime, -FAR + 20)[2] and number in (0, 1, 8, 27, 33, 60):
                in_gaps = {place + at: (length, place) for length, place in gaps_of(row) for at in range(length)}
                for place in range(row[0][0] - 2, row[-1][0] + 3):
                    with self.subTest(terms=rule.terms, number=number, place=place):
                        self.assertEqual(gap_at(rule, begin, number, place), in_gaps.get(place))

    def test_gap_at_the_ends_of_gaps_and_beside_them(self):
        for rule, begin, number, row in self.near_rows():
            gaps = gaps_of(row)
            in_gaps = {place + at: (length, place) for length, place in gaps for at in range(length)}
            for length, at in gaps[:2] + gaps[-1:]:
                for place in (at - 1, at, at + length - 1, at + length):
                    with self.subTest(terms=rule.terms, begin=begin, number=number, place=place):
                        self.assertEqual(gap_at(rule, begin, number, place), in_gaps.get(place))
            for place in (row[0][0] - 1, row[0][0], row[-1][0], row[-1][0] + 1, -FARTHEST, FARTHEST):
                self.assertIsNone(gap_at(rule, begin, number, place))

    def test_rows_without_gaps(self):
        for rule in rules():
            for number in (0, 1, 7, FARTHEST):
                self.assertIsNone(longest_gap(rule, [], number))
                self.assertEqual(count_gaps(rule, [], number, 1), 0)
                self.assertIsNone(gap_at(rule, [], number, 0))
            self.assertIsNone(longest_gap(rule, [(4, 1)], 0))
            self.assertIsNone(longest_gap(rule, [(4, 1), (5, 1)], 0))
            self.assertEqual(count_gaps(rule, [(4, 1), (5, 1)], 0, 1), 0)
            self.assertIsNone(gap_at(rule, [(4, 1)], 0, 4))
        for number in (0, 1, 2 ** 20 - 1, 2 ** 90 - 1):
            self.assertIsNone(longest_gap(Rule(*PAIRS), [(0, 1)], number))
            self.assertEqual(count_gaps(Rule(*PAIRS), [(0, 1)], number, 1), 0)

    def test_kinds_of_what_is_told(self):
        rule = Rule(*THREE)
        for number in (3, FAR):
            for gap in (longest_gap(rule, [(0, 1), (9, 1)], number), gap_at(rule, [(0, 1), (9, 1)], 3, 5)):
                self.assertIs(type(gap), tuple)
                self.assertEqual([type(one) for one in gap], [int, int])
            self.assertIs(type(count_gaps(rule, [(0, 1)], number, 1)), int)
        self.assertIs(type(count_gaps(rule, [], 3, 1)), int)

    def test_by_position_and_by_name(self):
        rule, row = Rule(3, [(1, 0), (2, 1)]), [(0, 1), (7, 2)]
        self.assertEqual(longest_gap(number=9, row=row, rule=rule), longest_gap(rule, row, 9))
        self.assertEqual(count_gaps(least=2, number=9, row=row, rule=rule), count_gaps(rule, row, 9, 2))
        self.assertEqual(gap_at(place=4, number=9, row=row, rule=rule), gap_at(rule, row, 9, 4))

    def test_passed_rows_stay(self):
        for rule in rules():
            for row in begins(rule.prime) + [[]]:
                kept = list(row)
                for number in (0, 9, FAR):
                    longest_gap(rule, row, number)
                    count_gaps(rule, row, number, 1)
                    gap_at(rule, row, number, 3)
                self.assertEqual(row, kept)


class FarGapsTest(unittest.TestCase):

    def test_told_gaps_have_zeros_and_other_cells_beside_them(self):
        for rule in rules():
            for row in begins(rule.prime, 5):
                for number in far_numbers(rule.prime)[:4] + [3 * POWERS[rule.prime] // rule.prime]:
                    gap = longest_gap(rule, row, number)
                    if gap is None:
                        self.assertEqual(count_gaps(rule, row, number, 1), 0)
                        continue
                    length, at = gap
                    with self.subTest(terms=rule.terms, row=row, number=number):
                        self.assertNotEqual(cell_at(rule, row, number, at - 1), 0)
                        self.assertNotEqual(cell_at(rule, row, number, at + length), 0)
                        for begin in {at, at + length // 2, max(at, at + length - 100)}:
                            zeros = min(100, at + length - begin)
                            self.assertEqual(cells_between(rule, row, number, begin, begin + zeros - 1), [0] * zeros)

    def test_gaps_of_short_stretches(self):
        for rule in rules():
            for row in begins(rule.prime, 5)[2:4]:
                for number in far_numbers(rule.prime)[:4]:
                    longest = longest_gap(rule, row, number)
                    for low in far_lows(rule, row, number):
                        cells = list(enumerate(cells_between(rule, row, number, low, low + 60), low))
                        for length, at in gaps_of([(place, value) for place, value in cells if value]):
                            with self.subTest(terms=rule.terms, row=row, number=number, at=at):
                                self.assertEqual(gap_at(rule, row, number, at), (length, at))
                                self.assertLessEqual(length, longest[0])
                                if at < longest[1]:
                                    self.assertLess(length, longest[0])

    def test_no_gap_is_longer_than_the_longest_one(self):
        for rule in rules():
            for row in begins(rule.prime)[:3]:
                for number in far_numbers(rule.prime)[:4]:
                    length, at = longest_gap(rule, row, number) or (0, 0)
                    first, last = ends_of(rule, row, number)
                    with self.subTest(terms=rule.terms, row=row, number=number):
                        if length:
                            self.assertGreaterEqual(count_gaps(rule, row, number, length), 1)
                        self.assertEqual(count_gaps(rule, row, number, length + 1), 0)
                        for part in range(1, 12):
                            gap = gap_at(rule, row, number, first + (last - first) * part // 12)
                            if gap is not None:
                                self.assertTrue(gap[0] < length or gap[0] == length and gap[1] >= at)

    def test_rows_a_few_times_a_power_of_the_prime_away(self):
        for prime in (2, 3, 5):
            power = POWERS[prime] // prime
            rule = Rule(prime, [(1, 0), (1, 1)])
            for times in (1, prime, 2 * prime, prime ** 2 + 1, prime + 1):
                number = times * power
                cells = [place for place, value in plain_rows(prime, rule.terms, [(0, 1)], times)[-1].items() if value]
                lengths = [(behind - before) * power - 1
                           for before, behind in zip(sorted(cells), sorted(cells)[1:])]
                with self.subTest(prime=prime, times=times):
                    self.assertEqual(longest_gap(rule, [(0, 1)], number)[0], max(lengths))
                    self.assertEqual(count_gaps(rule, [(0, 1)], number, 1), len(lengths))
                    for least in {min(lengths), min(lengths) + 1, max(lengths), max(lengths) + 1}:
                        self.assertEqual(count_gaps(rule, [(0, 1)], number, least),
                                         len([length for length in lengths if length >= least]))
                    for before, length in zip(sorted(cells), lengths):
                        begin = before * power + 1
                        for place in (begin, begin + length // 3, begin + length - 1):
                            self.assertEqual(gap_at(rule, [(0, 1)], number, place), (length, begin))
                        self.assertIsNone(gap_at(rule, [(0, 1)], number, begin - 1))
                        self.assertIsNone(gap_at(rule, [(0, 1)], number, begin + length))

    def test_rows_beside_powers_of_the_prime(self):
        power = 2 ** 70
        pairs, begin = Rule(*PAIRS), [(-5, 1)]
        self.assertEqual(longest_gap(pairs, begin, power), (power - 1, -4))
        self.assertEqual(longest_gap(pairs, begin, power + 1), (power - 2, -3))
        self.assertEqual(count_gaps(pairs, begin, power + 1, 1), 1)
        self.assertIsNone(longest_gap(pairs, begin, power - 1))
        # Each second cell of the row with a number that is 2 less than a power is not 0.
        self.assertEqual(longest_gap(pairs, begin, power - 2), (1, -4))
        self.assertEqual(count_gaps(pairs, begin, power - 2, 1), power // 2 - 1)
        self.assertEqual(count_gaps(pairs, begin, power - 2, 2), 0)

    def test_wide_begins(self):
        for rule in rules():
            power = POWERS[rule.prime]
            if len(rule.terms) == 1:
                continue
            (_, first), (_, second) = rule.terms[:2]
            for row in begins(rule.prime)[3:]:
                # The copies of the begin lie far apart, by as many times the differences of the offsets.
                at = row[-1][0] + power * first + 1
                length = row[0][0] + power * second - at
                self.assertEqual(gap_at(rule, row, power, at), (length, at))
                self.assertEqual(gap_at(rule, row, power, at + length - 1), (length, at))
                self.assertGreaterEqual(longest_gap(rule, row, power)[0], length)

    def test_rows_some_hundred_steps_away(self):
        for prime, terms in ((2, [(1, -2), (1, 0), (1, 1)]), (3, [(2, 1), (1, 2)]), (5, [(4, -1), (3, 0), (1, 1)])):
            rule, row = Rule(prime, terms), begins(prime)[2]
            rows = plain_rows(prime, terms, row, 260)
            for number in (63, 64, 65, 80, 81, 82, 124, 125, 126, 127, 128, 129, 242, 243, 244, 255, 256, 257, 260):
                gaps = gaps_of(row_of(rows[number]))
                longest = max([gap[0] for gap in gaps], default=0)
                with self.subTest(prime=prime, number=number):
                    self.assertEqual(longest_gap(rule, row, number),
                                     next((gap for gap in gaps if gap[0] == longest), None))
                    for least in range(1, longest + 2):
                        self.assertEqual(count_gaps(rule, row, number, least),
                                         len([gap for gap in gaps if gap[0] >= least]))
                    for length, at in gaps[::5]:
                        self.assertEqual(gap_at(rule, row, number, at + length // 2), (length, at))


class GapErrorsTest(unittest.TestCase):

    def setUp(self):
        self.rule = Rule(3, [(1, 0), (2, 1)])

    def calls(self):
        """Return the functions as calls of a row and of a number that are right in all else."""
        return [
            lambda row, number: longest_gap(self.rule, row, number),
            lambda row, number: count_gaps(self.rule, row, number, 1),
            lambda row, number: gap_at(self.rule, row, number, 0),
        ]

    def test_row_check(self):
        for at, call in enumerate(self.calls()):
            for row, wrong in WRONG_ROWS:
                for number in (0, 1, 5):
                    kept = list(row)
                    with self.subTest(call=at, row=row, number=number):
                        self.assertEqual(raised(call, row, number), (InvalidRow, wrong))
                        self.assertEqual(row, kept)

    def test_number_check(self):
        for at, call in enumerate(self.calls()):
            for row in ([], [(0, 1)], [(0, 1), (1, 2)]):
                for number in (-1, -2, -FARTHEST):
                    with self.subTest(call=at, row=row, number=number):
                        self.assertEqual(raised(call, row, number), (InvalidNumber, number))

    def test_gaps_of_less_than_one_zero(self):
        for row in ([], [(0, 1)], [(0, 1), (5, 2)]):
            for number in (0, 7, FARTHEST):
                for least in (0, -1, -FARTHEST):
                    self.assertEqual(raised(count_gaps, self.rule, row, number, least), (InvalidNumber, least))
                self.assertIsNone(raised(count_gaps, self.rule, row, number, 1))

    def test_the_first_of_several_errors(self):
        for call in self.calls():
            self.assertEqual(raised(call, [(0, 1), (0, 1)], -1), (InvalidRow, 1))
        self.assertEqual(raised(count_gaps, self.rule, [(0, 0)], -1, 0), (InvalidRow, 0))
        self.assertEqual(raised(count_gaps, self.rule, [(0, 0)], 1, 0), (InvalidRow, 0))
        self.assertEqual(raised(count_gaps, self.rule, [(0, 1)], -7, -2), (InvalidNumber, -7))
        self.assertEqual(raised(count_gaps, self.rule, [], -7, 0), (InvalidNumber, -7))

    def test_errors_of_arguments_by_name(self):
        self.assertEqual(raised(longest_gap, number=-3, row=[], rule=self.rule), (InvalidNumber, -3))
        self.assertEqual(raised(count_gaps, least=0, number=3, row=[], rule=self.rule), (InvalidNumber, 0))
        self.assertEqual(raised(gap_at, place=0, number=1, row=[(0, 3)], rule=self.rule), (InvalidRow, 0))


if __name__ == "__main__":
    unittest.main()
