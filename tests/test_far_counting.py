"""Promises 12, 13, 18, 20 and 69: counting in far rows, and how counts and gaps of far rows go together."""

import unittest

from grownrows.counting import count_between, count_row, nth_place, place_index
from grownrows.gaps import count_gaps, gap_at, longest_gap
from grownrows.rows import cell_at, cells_between, ends_of
from grownrows.rules import Rule
from samples import (FAR, FARTHEST, POWERS, begins, far_lows, far_numbers, moved, plain_rows, row_of, rules, turned)

# The rules of the greatest width, and one that has neither the width nor coefficients in common with its mirror.
WIDEST = [
    (2, [(1, -2), (1, -1), (1, 0), (1, 1), (1, 2)]),
    (2, [(1, 4), (1, 5), (1, 8)]),
    (3, [(1, -8), (2, -7), (1, -6), (2, -5)]),
    (3, [(1, 0), (2, 1)]),
    (5, [(1, -1), (3, 0), (4, 1)]),
    (5, [(2, 6), (1, 7), (1, 8)]),
]


def widest():
    """Return the rules of the greatest width."""
    return [Rule(prime, terms) for prime, terms in WIDEST]


def counts_between(rule, row, number, low, high):
    """Return the numbers of cells of a stretch with each value."""
    return [count_between(rule, row, number, value, low, high) for value in range(rule.prime)]


def indexes_of(many):
    """Return some of so many indexes, the first and the last ones among them."""
    return sorted({index for index in (0, many // 7, many // 2, many - 2, many - 1) if 0 <= index < many})


class FarCountsTest(unittest.TestCase):

    def test_binomial_coefficients_that_are_not_0(self):
        for prime in (2, 3, 5):
            rule = Rule(prime, [(1, -3), (1, -2)])
            for number in far_numbers(prime):
                many, rest = 1, number
                while rest:
                    rest, digit = divmod(rest, prime)
                    many *= digit + 1
                counts = [count_row(rule, [(7, prime - 1)], number, value) for value in range(1, prime)]
                first, last = ends_of(rule, [(7, prime - 1)], number)
                with self.subTest(prime=prime, number=number):
                    self.assertEqual(sum(counts), many)
                    self.assertEqual(counts_between(rule, [(7, prime - 1)], number, first, last),
                                     [number + 1 - many] + counts)

    def test_rows_of_powers_of_the_prime(self):
        for prime in (2, 3, 5):
            power = POWERS[prime]
            rule = Rule(prime, [(1, 0), (prime - 1, 1)])
            self.assertEqual(counts_between(rule, [(0, 1)], power, -5, power + 5)[1:],
                             [2] if prime == 2 else [1] + [0] * (prime - 3) + [1])
            # All cells of the row before are 1, as this rule's signs and those of the coefficients agree.
            self.assertEqual(count_row(rule, [(0, 1)], power - 1, 1), power)
            self.assertEqual(nth_place(rule, [(0, 1)], power - 1, 1, power // 3), power // 3)
            self.assertEqual(place_index(rule, [(0, 1)], power - 1, power - 1), power - 1)
            self.assertEqual(count_between(rule, [(0, 1)], power - 1, 0, -power, power), power + 1)

    def test_short_stretches_have_the_cells_that_are_there(self):
        for rule in rules() + widest():
            for row in begins(rule.prime, 5)[2:4]:
                for number in far_numbers(rule.prime)[1:4]:
                    for low in far_lows(rule, row, number):
                        cells = cells_between(rule, row, number, low, low + 60)
                        with self.subTest(terms=rule.terms, row=row, number=number, low=low):
                            self.assertEqual(counts_between(rule, row, number, low, low + 60),
                                             [cells.count(value) for value in range(rule.prime)])

    def test_stretches_of_one_cell(self):
        for rule in rules():
            row = begins(rule.prime)[2]
            for number in (FAR, POWERS[rule.prime]):
                for low in far_lows(rule, row, number):
                    for place in (low, low + 5, low + 10):
                        value = cell_at(rule, row, number, place)
                        counts = [0] * rule.prime
                        counts[value] = 1
                        self.assertEqual(counts_between(rule, row, number, place, place), counts)

    def test_zeros_are_the_rest_of_a_stretch(self):
        for rule in rules():
            for row in begins(rule.prime)[:4]:
                for number in far_numbers(rule.prime)[2:5]:
                    first, last = ends_of(rule, row, number)
                    counts = [count_row(rule, row, number, value) for value in range(1, rule.prime)]
                    for low, high in ((first, last), (first - FAR, last + FAR), (first - 1, last + 1)):
                        with self.subTest(terms=rule.terms, row=row, number=number, low=low):
                            self.assertEqual(counts_between(rule, row, number, low, high),
                                             [high - low + 1 - sum(counts)] + counts)
                    self.assertEqual(counts_between(rule, row, number, last + 1, FARTHEST ** 2),
                                     [FARTHEST ** 2 - last] + [0] * (rule.prime - 1))

    def test_rows_some_hundred_steps_away(self):
        for prime, terms in ((2, [(1, -2), (1, 0), (1, 1)]), (3, [(2, 1), (1, 2)]), (5, [(4, -1), (3, 0), (1, 1)])):
            rule, row = Rule(prime, terms), begins(prime)[2]
            rows = plain_rows(prime, terms, row, 260)
            for number in (63, 64, 65, 80, 81, 82, 124, 125, 126, 127, 128, 129, 242, 243, 244, 255, 256, 257, 260):
                cells = row_of(rows[number])
                for value in range(1, prime):
                    places = [place for place, one in cells if one == value]
                    with self.subTest(prime=prime, number=number, value=value):
                        self.assertEqual(count_row(rule, row, number, value), len(places))
                        for index in range(0, len(places), 7):
                            place = places[index]
                            self.assertEqual(nth_place(rule, row, number, value, index), place)
                            self.assertEqual(place_index(rule, row, number, place), index)
                            self.assertEqual(count_between(rule, row, number, value, -FAR, place), index + 1)


class FarPlacesTest(unittest.TestCase):

    def test_first_last_and_other_indexes(self):
        for rule in rules() + widest():
            for row in (begins(rule.prime)[2], begins(rule.prime, -FAR + 20)[4]):
                for number in (FAR, FARTHEST, POWERS[rule.prime] + 1):
                    first, last = ends_of(rule, row, number)
                    for value in range(1, rule.prime):
                        many = count_row(rule, row, number, value)
                        for index in indexes_of(many):
                            place = nth_place(rule, row, number, value, index)
                            with self.subTest(terms=rule.terms, number=number, value=value, index=index):
                                self.assertTrue(first <= place <= last)
                                self.assertEqual(cell_at(rule, row, number, place), value)
                                self.assertEqual(place_index(rule, row, number, place), index)
                                self.assertEqual(count_between(rule, row, number, value, first, place), index + 1)

    def test_index_of_any_place(self):
        for rule in rules():
            row = begins(rule.prime, 9)[3]
            for number in (FAR, POWERS[rule.prime] - 1):
                first, _ = ends_of(rule, row, number)
                for low in far_lows(rule, row, number):
                    for place in range(low, low + 12):
                        value = cell_at(rule, row, number, place)
                        index = place_index(rule, row, number, place)
                        if value == 0:
                            self.assertIsNone(index)
                        else:
                            self.assertEqual(index, count_between(rule, row, number, value, first - 9, place - 1))
                            self.assertEqual(nth_place(rule, row, number, value, index), place)

    def test_rules_of_one_term(self):
        for prime, coefficient, offset in ((2, 1, -8), (3, 2, 0), (5, 2, -3), (5, 4, 8)):
            rule = Rule(prime, [(coefficient, offset)])
            row = begins(prime, FAR - 20)[4]
            for number in far_numbers(prime):
                factor, shift = pow(coefficient, number, prime), number * offset
                cells = [(place + shift, value * factor % prime) for place, value in row]
                for value in range(1, prime):
                    places = [place for place, one in cells if one == value]
                    self.assertEqual(count_row(rule, row, number, value), len(places))
                    for index in range(0, len(places), 3):
                        self.assertEqual(nth_place(rule, row, number, value, index), places[index])

    def test_indexes_ascend_with_places(self):
        for rule in widest():
            row = begins(rule.prime)[2]
            for value in range(1, rule.prime):
                many = count_row(rule, row, FARTHEST, value)
                indexes = [many * part // 11 for part in range(11)] + [many - 1]
                places = [nth_place(rule, row, FARTHEST, value, index) for index in indexes]
                self.assertEqual(places, sorted(set(places)))
                beside = [nth_place(rule, row, FARTHEST, value, index + 1) for index in indexes[:-1]]
                for place, next_one in zip(places, beside):
                    self.assertEqual(count_between(rule, row, FARTHEST, value, place + 1, next_one), 1)
                    self.assertEqual(cell_at(rule, row, FARTHEST, next_one), value)


class TogetherTest(unittest.TestCase):

    def test_cut_stretches_add_up(self):
        for rule in widest():
            for row in (begins(rule.prime)[2], begins(rule.prime)[4]):
                for number in (FAR, POWERS[rule.prime] - 1, FARTHEST):
                    first, last = ends_of(rule, row, number)
                    low, high = first - 3, last - number // 9
                    for cut in (low, low + 1, (low + high) // 2, first + number // 5, high - 1):
                        left = counts_between(rule, row, number, low, cut)
                        right = counts_between(rule, row, number, cut + 1, high)
                        whole = counts_between(rule, row, number, low, high)
                        with self.subTest(terms=rule.terms, number=number, cut=cut):
                            self.assertEqual([one + other for one, other in zip(left, right)], whole)
                            self.assertEqual(sum(whole), high - low + 1)

    def test_a_mirrored_rule_has_the_same_from_the_other_end(self):
        for rule in rules() + widest():
            row, mirrored = begins(rule.prime, 6)[2], rule.mirrored()
            back = turned(row)
            for number in (FAR, POWERS[rule.prime] + 1):
                first, last = ends_of(rule, row, number)
                low, high = first + number // 3, last - number // 8
                if low <= high:
                    self.assertEqual(counts_between(rule, row, number, low, high),
                                     counts_between(mirrored, back, number, -high, -low))
                for value in range(1, rule.prime):
                    many = count_row(rule, row, number, value)
                    self.assertEqual(count_row(mirrored, back, number, value), many)
                    for index in indexes_of(many):
                        place = nth_place(rule, row, number, value, index)
                        self.assertEqual(nth_place(mirrored, back, number, value, many - 1 - index), -place)
                        self.assertEqual(place_index(mirrored, back, number, -place), many - 1 - index)
                for least in (1, 2, number // 50):
                    self.assertEqual(count_gaps(mirrored, back, number, least), count_gaps(rule, row, number, least))
                longest, other_longest = longest_gap(rule, row, number), longest_gap(mirrored, back, number)
                self.assertEqual(longest and longest[0], other_longest and other_longest[0])
                for place in (low, high, first + 1, last - 1):
                    gap = gap_at(rule, row, number, place)
                    expected = gap and (gap[0], 1 - gap[1] - gap[0])
                    self.assertEqual(gap_at(mirrored, back, number, -place), expected)

    def test_a_moved_begin_moves_all_places(self):
        for rule in widest():
            row, far_row = begins(rule.prime)[2], begins(rule.prime, FAR - 20)[2]
            by = FAR - 20
            self.assertEqual(moved(row, by), far_row)
            for number in (FAR, POWERS[rule.prime] - 1):
                first, last = ends_of(rule, row, number)
                low, high = first + number // 7, last - number // 3
                self.assertEqual(counts_between(rule, far_row, number, low + by, high + by),
                                 counts_between(rule, row, number, low, high))
                for value in range(1, rule.prime):
                    many = count_row(rule, row, number, value)
                    self.assertEqual(count_row(rule, far_row, number, value), many)
                    for index in indexes_of(many)[1:3]:
                        place = nth_place(rule, row, number, value, index)
                        self.assertEqual(nth_place(rule, far_row, number, value, index), place + by)
                        self.assertEqual(place_index(rule, far_row, number, place + by), index)
                length, at = longest_gap(rule, row, number) or (0, 0)
                self.assertEqual(longest_gap(rule, far_row, number), (length, at + by) if length else None)
                gap = gap_at(rule, row, number, low)
                self.assertEqual(gap_at(rule, far_row, number, low + by), gap and (gap[0], gap[1] + by))

    def test_a_begin_times_a_factor_has_the_values_times_it(self):
        for rule in widest():
            row, prime = begins(rule.prime)[2], rule.prime
            for factor in range(1, prime):
                times = [(place, value * factor % prime) for place, value in row]
                for value in range(1, prime):
                    self.assertEqual(count_row(rule, times, FAR, value * factor % prime),
                                     count_row(rule, row, FAR, value))
                    self.assertEqual(nth_place(rule, times, FAR, value * factor % prime, 99),
                                     nth_place(rule, row, FAR, value, 99))
                self.assertEqual(longest_gap(rule, times, FAR), longest_gap(rule, row, FAR))

    def test_gaps_counts_and_places(self):
        for rule in rules() + widest():
            for row in (begins(rule.prime, 3)[0], begins(rule.prime, 3)[3]):
                for number in (FAR, 3 * POWERS[rule.prime] + 1):
                    gap = longest_gap(rule, row, number)
                    if gap is None:
                        continue
                    length, at = gap
                    with self.subTest(terms=rule.terms, row=row, number=number):
                        self.assertEqual(count_between(rule, row, number, 0, at, at + length - 1), length)
                        self.assertNotEqual(cell_at(rule, row, number, at - 1), 0)
                        self.assertNotEqual(cell_at(rule, row, number, at + length), 0)
                        for place in (at, at + length // 2, at + length - 1):
                            self.assertEqual(gap_at(rule, row, number, place), gap)
                        self.assertIsNone(gap_at(rule, row, number, at - 1))
                        self.assertIsNone(gap_at(rule, row, number, at + length))
                        self.assertGreaterEqual(count_gaps(rule, row, number, length), 1)
                        self.assertEqual(count_gaps(rule, row, number, length + 1), 0)


class SpreadRowsTest(unittest.TestCase):

    def test_rows_of_numbers_times_a_power_of_the_prime(self):
        for rule in widest():
            prime, begin = rule.prime, [(0, rule.prime - 1)]
            for number in (1, 7, 26, 10 ** 9, 10 ** 14 + 3):
                first, last = ends_of(rule, begin, number)
                for times in (prime, prime ** 2, prime ** 10, prime ** 20):
                    far = number * times
                    with self.subTest(terms=rule.terms, number=number, times=times):
                        self.assertEqual(ends_of(rule, begin, far), (first * times, last * times))
                        for value in range(1, prime):
                            many = count_row(rule, begin, number, value)
                            self.assertEqual(count_row(rule, begin, far, value), many)
                            for index in indexes_of(many):
                                place = nth_place(rule, begin, number, value, index)
                                self.assertEqual(nth_place(rule, begin, far, value, index), place * times)
                                self.assertEqual(place_index(rule, begin, far, place * times), index)
                                self.assertEqual(cell_at(rule, begin, far, place * times), value)
                                self.assertEqual(cell_at(rule, begin, far, place * times + 1), 0)
                        cells = cells_between(rule, begin, number, first, first + 5)
                        for at, value in enumerate(cells):
                            self.assertEqual(cell_at(rule, begin, far, (first + at) * times), value)

    def test_gaps_of_spread_rows(self):
        for rule in widest():
            prime, begin = rule.prime, [(0, 1)]
            for number in (1, 7, 26, 10 ** 9):
                lit = sum(count_row(rule, begin, number, value) for value in range(1, prime))
                gap = longest_gap(rule, begin, number)
                for times in (prime, prime ** 2, prime ** 20):
                    far = number * times
                    with self.subTest(terms=rule.terms, number=number, times=times):
                        self.assertEqual(count_gaps(rule, begin, far, 1), lit - 1)
                        self.assertEqual(count_gaps(rule, begin, far, times - 1), lit - 1)
                        self.assertEqual(count_gaps(rule, begin, far, times), count_gaps(rule, begin, number, 1))
                        if gap is not None:
                            # Behind the cell before a gap there is one zero less than the times of that distance.
                            self.assertEqual(longest_gap(rule, begin, far),
                                             ((gap[0] + 1) * times - 1, (gap[1] - 1) * times + 1))
                        elif lit > 1:
                            first, _ = ends_of(rule, begin, far)
                            self.assertEqual(longest_gap(rule, begin, far), (times - 1, first + 1))


if __name__ == "__main__":
    unittest.main()
