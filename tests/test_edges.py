"""Stretches that touch the ends of rows and of blocks, and begins that are as wide as told rows (promises 6 to 18)."""

import unittest

from grownrows.counting import count_between, count_row, nth_place, place_index
from grownrows.gaps import count_gaps, gap_at, longest_gap
from grownrows.rows import cell_at, cells_between, ends_of, rows_until
from grownrows.rules import Rule
from grownrows.sheets import count_lit, count_rows
from samples import FAR, PAIRS, POWERS, begins, gaps_of, moved, plain_rows, row_of, rules


class EndsTest(unittest.TestCase):

    def test_stretches_that_touch_the_ends(self):
        for rule in rules():
            for row in begins(rule.prime, 7):
                for number in (0, 5, 40, FAR, POWERS[rule.prime]):
                    first, last = ends_of(rule, row, number)
                    left, right = cell_at(rule, row, number, first), cell_at(rule, row, number, last)
                    for length in (1, 2, 9, 70):
                        with self.subTest(terms=rule.terms, row=row, number=number, length=length):
                            self.assertEqual(cells_between(rule, row, number, first - length, first),
                                             [0] * length + [left])
                            self.assertEqual(cells_between(rule, row, number, last, last + length),
                                             [right] + [0] * length)
                            self.assertEqual(count_between(rule, row, number, left, first - length, first), 1)
                            self.assertEqual(count_between(rule, row, number, 0, first - length, first), length)
                            self.assertEqual(count_between(rule, row, number, right, last, last + length), 1)

    def test_stretches_that_end_about_the_ends_of_blocks(self):
        for prime, terms in (PAIRS, (3, [(1, 0), (2, 1)]), (5, [(1, 0), (1, 1), (2, 2)])):
            rule, row = Rule(prime, terms), [(0, 1), (2, 1)]
            cells = plain_rows(prime, terms, row, 60)[60]
            counts = [0] * prime
            for high in range(400):
                counts[cells.get(high, 0)] += 1
                self.assertEqual([count_between(rule, row, 60, value, 0, high) for value in range(prime)], counts)
                self.assertEqual(cells_between(rule, row, 60, high, high + 30),
                                 [cells.get(place, 0) for place in range(high, high + 31)])


class WideBeginsTest(unittest.TestCase):

    def begins(self):
        """Return tuples (rule, row) with rows wider than callers pass them."""
        wide = []
        for prime, terms in (PAIRS, (2, [(1, -1), (1, 0), (1, 3)]), (3, [(1, 0), (2, 1)]), (5, [(1, -1), (1, 0)])):
            for apart in range(62, 70):
                wide.append((Rule(prime, terms), [(0, 1), (apart, 1)]))
            for apart in (80, 81, 82, 83, 84, 85, 125, 126, 127, 128, 300):
                wide.append((Rule(prime, terms), [(0, 1), (apart, prime - 1)]))
        return wide

    def test_rows_of_wide_begins(self):
        for rule, row in self.begins():
            rows = plain_rows(rule.prime, rule.terms, row, 130)
            for number in (0, 40, 63, 64, 80, 81, 124, 125, 127, 128):
                cells = rows[number]
                low, high = min(cells) - 1, max(cells) + 1
                values = [cells.get(place, 0) for place in range(low, high + 1)]
                with self.subTest(terms=rule.terms, row=row, number=number):
                    self.assertEqual(cells_between(rule, row, number, low, high), values)
                    for value in range(1, rule.prime):
                        self.assertEqual(count_row(rule, row, number, value), values.count(value))
                    value = values[-2]
                    self.assertEqual(nth_place(rule, row, number, value, values.count(value) - 1), high - 1)
                    self.assertEqual(place_index(rule, row, number, high - 1), values.count(value) - 1)
                    gaps = gaps_of(row_of(cells))
                    self.assertEqual(count_gaps(rule, row, number, 1), len(gaps))
                    if gaps:
                        self.assertEqual(longest_gap(rule, row, number)[0], max(gap[0] for gap in gaps))
                        self.assertEqual(gap_at(rule, row, number, gaps[-1][1]), gaps[-1])

    def test_sheets_of_wide_begins(self):
        for rule, row in self.begins()[::3]:
            rows = plain_rows(rule.prime, rule.terms, row, 70)
            for number in (0, 9, 70):
                values = [value for cells in rows[:number + 1] for value in cells.values()]
                self.assertEqual(count_lit(rule, row, number), len(values))
                for value in range(1, rule.prime):
                    self.assertEqual(count_rows(rule, row, number, value), values.count(value))

    def test_told_rows_as_begins(self):
        for rule in rules():
            row = begins(rule.prime)[4]
            later = rows_until(rule, row, 40)[40]
            for number in (FAR, POWERS[rule.prime]):
                first, _ = ends_of(rule, row, number)
                self.assertEqual(cells_between(rule, later, number - 40, first, first + 70),
                                 cells_between(rule, row, number, first, first + 70))
                for value in range(1, rule.prime):
                    self.assertEqual(count_row(rule, later, number - 40, value), count_row(rule, row, number, value))
                self.assertEqual(longest_gap(rule, later, number - 40), longest_gap(rule, row, number))

    def test_near_rows_of_begins_far_apart(self):
        for rule in rules():
            row = begins(rule.prime)[2]
            apart = moved(row, -FAR) + row + moved(row, FAR)
            for number, told in enumerate(rows_until(rule, apart, 12)):
                near = rows_until(rule, row, number)[number]
                self.assertEqual(told, moved(near, -FAR) + near + moved(near, FAR))
                first, last = ends_of(rule, row, number)
                self.assertEqual(cells_between(rule, apart, number, first - 3, last + 3),
                                 cells_between(rule, row, number, first - 3, last + 3))
                self.assertEqual(cell_at(rule, apart, number, last + FAR), near[-1][1])


if __name__ == "__main__":
    unittest.main()
