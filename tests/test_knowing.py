"""Promises 50 to 56: begins of which some cells of later rows were seen."""

import unittest
from itertools import product

from grownrows.errors import InvalidNumber, InvalidSeen, InvalidStretch
from grownrows.knowing import count_begins, first_begin, looks_missing, sure_value
from grownrows.rows import cell_at, ends_of
from grownrows.rules import Rule
from samples import FAR, FARTHEST, POWERS, raised, rules

# A stretch of so many places has few enough begins to try them all.
SHORT = {2: 6, 3: 4, 5: 3}


def begin_of(prime, low, many, salt=1):
    """Return a begin of so many places from a low one on."""
    values = [(at * at + salt * at + salt) * (at + 2) % 7 % prime for at in range(many)]
    return [(low + at, value) for at, value in enumerate(values) if value]


def values_of(row, low, high):
    """Return the list of the values of a row from low to high."""
    return [dict(row).get(place, 0) for place in range(low, high + 1)]


def looks(rule, low, high, many, farthest=FAR):
    """Return so many tuples (number, place) of cells of near and far rows, that a stretch can reach or nearly so."""
    numbers = [0, 1, 2, 5, 9, 40, rule.prime ** 9, rule.prime ** 9 + 1, POWERS[rule.prime] - 1, farthest]
    told = []
    for at in range(many):
        number = numbers[(3 * at + many) % len(numbers)]
        first, last = ends_of(rule, [(low, 1), (high + 1, 1)], number)
        told.append((number, [first + at % 5, last - at % 7 - 1, (first + last) // 2, first + number // 3][at % 4]))
    return told


def seen_of(rule, row, told):
    """Return the seen cells of a begin at tuples (number, place)."""
    return [(number, place, cell_at(rule, row, number, place)) for number, place in told]


def all_begins(rule, low, high, seen_cells):
    """Return all lists of values from low to high with all seen cells, each one tried."""
    found = []
    for values in product(range(rule.prime), repeat=high - low + 1):
        row = [(low + at, value) for at, value in enumerate(values) if value]
        if all(cell_at(rule, row, number, place) == value for number, place, value in seen_cells):
            found.append(list(values))
    return found


class ExampleTest(unittest.TestCase):

    def test_the_example_of_the_document(self):
        pairs = Rule(2, [(1, 0), (1, 1)])
        seen_cells = [(10 ** 30, 0, 1)]
        self.assertEqual(count_begins(pairs, 0, 1, seen_cells), 2)
        self.assertEqual(first_begin(pairs, 0, 1, seen_cells), [1, 0])
        self.assertEqual(sure_value(pairs, 0, 1, seen_cells, 7, 0), 1)
        self.assertIsNone(sure_value(pairs, 0, 1, seen_cells, 10 ** 30, 1))
        self.assertEqual(looks_missing(pairs, 0, 1, seen_cells), 1)
        self.assertEqual(count_begins(pairs, 0, 1, seen_cells + [(3, 0, 0)]), 0)
        self.assertEqual(sure_value(pairs, 0, 1, [], 5, 9), 0)


class AllBeginsTest(unittest.TestCase):

    def check_told(self, rule, low, high, seen_cells, others):
        """Compare all that is told with the begins, each one tried."""
        begins = all_begins(rule, low, high, seen_cells)
        self.assertEqual(count_begins(rule, low, high, seen_cells), len(begins))
        self.assertEqual(first_begin(rule, low, high, seen_cells), begins[0] if begins else None)
        missing = looks_missing(rule, low, high, seen_cells)
        self.assertEqual(missing is None, not begins)
        if begins:
            self.assertEqual(rule.prime ** missing, len(begins))
        rows = [[(low + at, value) for at, value in enumerate(values) if value] for values in begins]
        for number, place in others:
            values = {cell_at(rule, row, number, place) for row in rows}
            self.assertEqual(sure_value(rule, low, high, seen_cells, number, place),
                             values.pop() if len(values) == 1 else None)

    def test_true_cells(self):
        for rule in rules():
            for low in (0, -FAR):
                for many in range(6):
                    high = low + SHORT[rule.prime] - 1
                    row = begin_of(rule.prime, low, SHORT[rule.prime], many)
                    told = looks(rule, low, high, many + 4)
                    with self.subTest(terms=rule.terms, low=low, many=many):
                        self.check_told(rule, low, high, seen_of(rule, row, told[:many]), told[many:])

    def test_any_cells(self):
        for rule in rules():
            for many in range(1, 6):
                low, high = -2, SHORT[rule.prime] - 3
                told = looks(rule, low, high, many + 2)
                seen_cells = [(number, place, (at * at + many) % rule.prime)
                              for at, (number, place) in enumerate(told[:many])]
                with self.subTest(terms=rule.terms, many=many):
                    self.check_told(rule, low, high, seen_cells, told[many:])

    def test_stretches_of_one_place(self):
        for rule in rules():
            for value in range(rule.prime):
                self.check_told(rule, 3, 3, [(0, 3, value)], [(1, 3), (FAR, 3 + FAR * rule.terms[0][1])])
                self.check_told(rule, 3, 3, [(0, 2, value)], [(0, 3), (0, 4)])
            self.check_told(rule, 3, 3, [], [(0, 3), (0, 4), (FAR, 3 + FAR * rule.terms[-1][1])])

    def test_by_position_and_by_name(self):
        rule, seen_cells = Rule(3, [(1, 0), (2, 1)]), [(9, 3, 1), (0, 0, 2)]
        named = {"seen_cells": seen_cells, "high": 4, "low": 0, "rule": rule}
        self.assertEqual(count_begins(**named), count_begins(rule, 0, 4, seen_cells))
        self.assertEqual(first_begin(**named), first_begin(rule, 0, 4, seen_cells))
        self.assertEqual(looks_missing(**named), looks_missing(rule, 0, 4, seen_cells))
        self.assertEqual(sure_value(place=0, number=1, **named), sure_value(rule, 0, 4, seen_cells, 1, 0))

    def test_lists_stay_and_told_lists_may_be_changed(self):
        for rule in rules():
            row = begin_of(rule.prime, 0, 9)
            seen_cells = seen_of(rule, row, looks(rule, 0, 8, 7))
            kept = list(seen_cells)
            told = first_begin(rule, 0, 8, seen_cells)
            again = list(told)
            told.append(9)
            told[0] = 7
            count_begins(rule, 0, 8, seen_cells)
            looks_missing(rule, 0, 8, seen_cells)
            sure_value(rule, 0, 8, seen_cells, 3, 2)
            self.assertEqual(seen_cells, kept)
            self.assertEqual(first_begin(rule, 0, 8, seen_cells), again)

    def test_kinds_of_what_is_told(self):
        rule = Rule(5, [(1, 0), (2, 1)])
        for seen_cells in ([], [(0, 0, 3)]):
            self.assertIs(type(count_begins(rule, 0, 2, seen_cells)), int)
            self.assertIs(type(looks_missing(rule, 0, 2, seen_cells)), int)
            self.assertIs(type(sure_value(rule, 0, 2, seen_cells, 0, 5)), int)
            self.assertEqual({type(value) for value in first_begin(rule, 0, 2, seen_cells)}, {int})


class LongStretchesTest(unittest.TestCase):

    def test_the_first_begin_has_the_cells(self):
        for rule in rules():
            for many, length in ((0, 24), (3, 24), (14, 24), (8, 10), (5, 1)):
                low = -4
                high = low + length - 1
                row = begin_of(rule.prime, low, length, many)
                seen_cells = seen_of(rule, row, looks(rule, low, high, many))
                first = first_begin(rule, low, high, seen_cells)
                with self.subTest(terms=rule.terms, many=many, length=length):
                    self.assertEqual(len(first), length)
                    self.assertLessEqual(first, values_of(row, low, high))
                    grown = [(low + at, value) for at, value in enumerate(first) if value]
                    self.assertEqual(seen_of(rule, grown, [cell[:2] for cell in seen_cells]), seen_cells)
                    self.assertEqual(count_begins(rule, low, high, seen_cells),
                                     rule.prime ** looks_missing(rule, low, high, seen_cells))
                    self.check_no_lesser_list(rule, low, high, seen_cells, first)

    def check_no_lesser_list(self, rule, low, high, seen_cells, first):
        """Check that no list that is less than the first one, from some place on, has the seen cells."""
        cells = [(0, low + at, value) for at, value in enumerate(first)]
        for at, value in enumerate(first):
            for less in range(value):
                self.assertEqual(count_begins(rule, low, high, seen_cells + cells[:at] + [(0, low + at, less)]), 0)

    def test_cells_seen_one_after_another(self):
        for rule in rules():
            prime, low, high = rule.prime, 2, 21
            row = begin_of(prime, low, 20)
            told = seen_of(rule, row, looks(rule, low, high, 14))
            before, missing = prime ** 20, 20
            for at in range(1, 15):
                count = count_begins(rule, low, high, told[:at])
                self.assertIn(count, (before, before // prime))
                self.assertEqual(looks_missing(rule, low, high, told[:at]), missing - (count != before))
                sure = sure_value(rule, low, high, told[:at - 1], *told[at - 1][:2])
                self.assertEqual(sure is not None, count == before)
                before, missing = count, missing - (count != before)
                # Once more seen it tells nothing new, and neither does another sequence.
                again = told[:at] + told[:1] + told[at - 1:at]
                self.assertEqual(count_begins(rule, low, high, again), count)
                self.assertEqual(first_begin(rule, low, high, again[::-1]), first_begin(rule, low, high, told[:at]))
                self.assertEqual(looks_missing(rule, low, high, again[::-1]), missing)
                self.assertEqual(sure_value(rule, low, high, told[:at][::-1], 3, 4),
                                 sure_value(rule, low, high, told[:at], 3, 4))

    def test_what_was_seen_is_sure(self):
        for rule in rules():
            row = begin_of(rule.prime, -FAR, 24, 3)
            seen_cells = seen_of(rule, row, looks(rule, -FAR, 23 - FAR, 12))
            for number, place, value in seen_cells:
                self.assertEqual(sure_value(rule, -FAR, 23 - FAR, seen_cells, number, place), value)

    def test_a_cell_that_is_not_sure(self):
        for rule in rules():
            prime, row = rule.prime, begin_of(rule.prime, 0, 24)
            seen_cells = seen_of(rule, row, looks(rule, 0, 23, 6))
            for number, place in looks(rule, 0, 23, 12)[5:]:
                sure = sure_value(rule, 0, 23, seen_cells, number, place)
                counts = [count_begins(rule, 0, 23, seen_cells + [(number, place, value)]) for value in range(prime)]
                whole = count_begins(rule, 0, 23, seen_cells)
                if sure is None:
                    self.assertEqual(counts, [whole // prime] * prime)
                else:
                    self.assertEqual(counts, [whole if value == sure else 0 for value in range(prime)])

    def test_all_cells_of_row_0_seen(self):
        for rule in rules():
            row = begin_of(rule.prime, 5, 20)
            seen_cells = [(0, 5 + at, value) for at, value in enumerate(values_of(row, 5, 24))]
            self.assertEqual(count_begins(rule, 5, 24, seen_cells), 1)
            self.assertEqual(looks_missing(rule, 5, 24, seen_cells), 0)
            self.assertEqual(first_begin(rule, 5, 24, seen_cells), values_of(row, 5, 24))
            for number, place in looks(rule, 5, 24, 12):
                self.assertEqual(sure_value(rule, 5, 24, seen_cells, number, place),
                                 cell_at(rule, row, number, place))

    def test_nothing_seen(self):
        for rule in rules():
            for length in (1, 2, 24):
                self.assertEqual(count_begins(rule, -1, length - 2, []), rule.prime ** length)
                self.assertEqual(first_begin(rule, -1, length - 2, []), [0] * length)
                self.assertEqual(looks_missing(rule, -1, length - 2, []), length)
                for number in (0, 1, FAR, FARTHEST):
                    first, last = ends_of(rule, [(-1, 1), (length - 1, 1)], number)
                    self.assertEqual(sure_value(rule, -1, length - 2, [], number, first - 1), 0)
                    self.assertEqual(sure_value(rule, -1, length - 2, [], number, last), 0)
                    self.assertIsNone(sure_value(rule, -1, length - 2, [], number, first))
                    self.assertIsNone(sure_value(rule, -1, length - 2, [], number, last - 1))

    def test_beyond_the_reach(self):
        for rule in rules():
            for seen_cells in ([], [(0, 3, 1)]):
                for number in (0, 7, FAR):
                    first, last = ends_of(rule, [(0, 1), (9, 1)], number)
                    for place in (first - 1, last + 1, first - FAR, last + FAR):
                        self.assertEqual(sure_value(rule, 0, 9, seen_cells, number, place), 0)
                        self.assertEqual(count_begins(rule, 0, 9, seen_cells + [(number, place, 0)]),
                                         count_begins(rule, 0, 9, seen_cells))


class ImpossibleCellsTest(unittest.TestCase):

    def test_wherever_it_stands(self):
        for rule in rules():
            prime, row = rule.prime, begin_of(rule.prime, 0, 12)
            right = seen_of(rule, row, looks(rule, 0, 11, 8))
            number, place, value = right[3]
            first, last = ends_of(rule, [(0, 1), (11, 1)], FAR)
            for wrong in ((number, place, (value + 1) % prime), (FAR, first - 1, 1), (FAR, last + 1, prime - 1),
                          (0, -1, 1), (0, 12, 1)):
                for at in (0, 4, 8):
                    seen_cells = right[:at] + [wrong] + right[at:]
                    self.assertEqual(count_begins(rule, 0, 11, seen_cells), 0)
                    self.assertIsNone(first_begin(rule, 0, 11, seen_cells))
                    self.assertIsNone(looks_missing(rule, 0, 11, seen_cells))
                    for asked in ((number, place), (0, 50), (FAR, first)):
                        self.assertIsNone(sure_value(rule, 0, 11, seen_cells, *asked))

    def test_one_cell_with_two_values(self):
        for rule in rules():
            place = 4 + rule.terms[0][1]
            for seen_cells in ([(1, place, 0), (1, place, 1)], [(1, place, 1), (0, 0, 1), (1, place, 0)]):
                self.assertEqual(count_begins(rule, 0, 9, seen_cells), 0)
                self.assertIsNone(first_begin(rule, 0, 9, seen_cells))


class KnowingErrorsTest(unittest.TestCase):

    def setUp(self):
        self.rule = Rule(3, [(1, 0), (2, 1)])

    def calls(self):
        """Return the functions as calls of a stretch and of seen cells that are right in all else."""
        return [
            lambda low, high, seen_cells: count_begins(self.rule, low, high, seen_cells),
            lambda low, high, seen_cells: first_begin(self.rule, low, high, seen_cells),
            lambda low, high, seen_cells: sure_value(self.rule, low, high, seen_cells, 4, 2),
            lambda low, high, seen_cells: looks_missing(self.rule, low, high, seen_cells),
        ]

    def test_stretch_check(self):
        for call in self.calls():
            for low, high in ((1, 0), (0, -1), (FAR, -FAR)):
                for seen_cells in ([], [(0, 0, 1)], [(-1, 0, 1)], [(0, 0, 3)]):
                    self.assertEqual(raised(call, low, high, seen_cells), (InvalidStretch, (low, high)))

    def test_seen_check(self):
        wrong = [((-1, 0, 1),), ((-FARTHEST, 0, 0),), ((0, 0, 3),), ((5, 1, -1),), ((0, 0, FARTHEST),), ((-1, 0, 3),)]
        right = [(0, 0, 1), (0, 0, 2), (7, 3, 0), (FAR, FARTHEST, 2)]
        for call in self.calls():
            for cells in wrong:
                for at in range(5):
                    seen_cells = right[:at] + list(cells) + right[at:] + [(-5, 0, 9)]
                    kept = list(seen_cells)
                    self.assertEqual(raised(call, 0, 5, seen_cells), (InvalidSeen, at))
                    self.assertEqual(seen_cells, kept)

    def test_values_of_all_primes(self):
        for prime in (2, 3, 5):
            rule = Rule(prime, [(1, 0), (1, 1)])
            for value in range(prime):
                self.assertIsNone(raised(count_begins, rule, 0, 3, [(0, 0, value)]))
            self.assertEqual(raised(count_begins, rule, 0, 3, [(0, 0, prime)]), (InvalidSeen, 0))

    def test_number_check(self):
        for seen_cells in ([], [(0, 0, 1)], [(0, 0, 1), (0, 0, 2)]):
            for number in (-1, -FARTHEST):
                self.assertEqual(raised(sure_value, self.rule, 0, 5, seen_cells, number, 0), (InvalidNumber, number))
                self.assertEqual(raised(sure_value, place=0, number=number, seen_cells=seen_cells, high=5, low=0,
                                        rule=self.rule), (InvalidNumber, number))

    def test_the_first_of_several_errors(self):
        self.assertEqual(raised(sure_value, self.rule, 1, 0, [(-1, 0, 0)], -1, 0), (InvalidStretch, (1, 0)))
        self.assertEqual(raised(sure_value, self.rule, 0, 0, [(0, 0, 5)], -1, 0), (InvalidSeen, 0))
        self.assertEqual(raised(first_begin, seen_cells=[(-1, 0, 0)], high=0, low=1, rule=self.rule),
                         (InvalidStretch, (1, 0)))

    def test_right_ones_raise_nothing(self):
        for call in self.calls():
            for low, high in ((0, 0), (-FAR, 23 - FAR), (FAR - 23, FAR)):
                for seen_cells in ([], [(0, 0, 0)], [(FARTHEST, -FARTHEST, 2)], [(0, 0, 1), (0, 0, 2)]):
                    self.assertIsNone(raised(call, low, high, seen_cells))


if __name__ == "__main__":
    unittest.main()
