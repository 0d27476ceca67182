"""Promises 21, 23, 25, 27 and 28: what watchers see in near rows, and the errors of watchers."""

import unittest

from grownrows.errors import InvalidNumber, InvalidRow, InvalidValue
from grownrows.rules import Rule
from grownrows.views import View
from samples import FAR, FARTHEST, PAIRS, SAMPLES, THREE, begins, plain_seen, raised, rules
from test_rows import WRONG_ROWS


def watchers(rule, middle=0):
    """Return the places and drifts of watchers: near and farther ones, that stay or move, also as the ends do."""
    least, greatest = rule.terms[0][1], rule.terms[-1][1]
    drifts = sorted({0, -1, 3, least, greatest, least - 1, greatest + 1})
    return [(middle + place, drift) for place in (0, 1, -7, 20, -45) for drift in drifts if -8 <= drift <= 8]


class ExampleTest(unittest.TestCase):

    def test_the_example_of_the_document(self):
        pairs, begin = Rule(2, [(1, 0), (1, 1)]), [(0, 1)]
        six = View(pairs, begin, 6, 0)
        self.assertEqual(six.first_seen(1), 6)
        self.assertEqual(View(pairs, begin, -1, 0).all_seen(), [0])
        self.assertEqual(six.count_seen(1, 7), 2)
        self.assertEqual(View(pairs, begin, 2 ** 30, 0).first_seen(1), 2 ** 30)


class SeenTest(unittest.TestCase):

    def test_near_rows(self):
        for rule, (prime, terms) in zip(rules(), SAMPLES):
            for row in [[]] + begins(prime):
                for place, drift in watchers(rule)[::3]:
                    view = View(rule, row, place, drift)
                    with self.subTest(terms=terms, row=row, place=place, drift=drift):
                        self.assertEqual([view.seen(number) for number in range(41)],
                                         plain_seen(prime, terms, row, place, drift, 40))

    def test_far_begins(self):
        for rule, (prime, terms) in zip(rules(), SAMPLES):
            for middle in (10 ** 12 - 20, 20 - 10 ** 12):
                row = begins(prime, middle)[2]
                for place, drift in watchers(rule, middle)[::4]:
                    view = View(rule, row, place, drift)
                    self.assertEqual([view.seen(number) for number in range(21)],
                                     plain_seen(prime, terms, row, place, drift, 20))

    def test_rows_asked_by_turns_and_again(self):
        rule, row = Rule(5, [(1, -1), (3, 0), (4, 1)]), [(-2, 4), (0, 1), (3, 2)]
        seen = plain_seen(5, rule.terms, row, 1, -1, 40)
        view, other = View(rule, row, 1, -1), View(Rule(*PAIRS), [(0, 1)], 4, 0)
        other_seen = plain_seen(2, PAIRS[1], [(0, 1)], 4, 0, 40)
        for number in (40, 0, 17, 40, 3, 3, 25, 26, 24, 1, 0):
            self.assertEqual(view.seen(number), seen[number])
            self.assertEqual(other.seen(number), other_seen[number])

    def test_properties_are_what_was_passed(self):
        rule, row = Rule(3, [(2, 1), (1, 0)]), [(-4, 2), (10 ** 12, 1)]
        view = View(rule, row, -10 ** 12, -8)
        self.assertEqual((view.rule, view.row, view.place, view.drift), (rule, row, -10 ** 12, -8))
        self.assertIs(type(view.row), list)
        self.assertIsNot(view.row, view.row)
        self.assertIsNot(view.row, row)
        self.assertEqual(View(rule, [], 0, 0).row, [])

    def test_changed_lists_leave_the_watcher(self):
        for rule, (prime, terms) in zip(rules(), SAMPLES):
            row = begins(prime)[2]
            kept = list(row)
            view = View(rule, row, 0, 1)
            row.append((FAR, 1))
            row[0] = (-9, 1)
            view.row.clear()
            view.row.append((5, 1))
            view.all_seen().append(7)
            self.assertEqual(view.row, kept)
            self.assertEqual([view.seen(number) for number in range(21)], plain_seen(prime, terms, kept, 0, 1, 20))
            self.assertEqual(view.all_seen(), View(rule, kept, 0, 1).all_seen())

    def test_passed_lists_stay(self):
        for rule in rules():
            for row in begins(rule.prime):
                kept = list(row)
                view = View(rule, row, 3, 0)
                view.seen(FAR)
                view.first_seen(1)
                view.count_seen(1, FAR)
                view.all_seen()
                self.assertEqual(row, kept)
                self.assertEqual(view.row, kept)

    def test_by_position_and_by_name(self):
        rule, row = Rule(3, [(1, 0), (2, 1)]), [(0, 1), (3, 2)]
        view = View(rule, row, 4, 1)
        named = View(drift=1, place=4, row=row, rule=rule)
        self.assertEqual(named.seen(number=9), view.seen(9))
        self.assertEqual(named.first_seen(value=2), view.first_seen(2))
        self.assertEqual(named.count_seen(number=40, value=2), view.count_seen(2, 40))
        self.assertEqual(named.all_seen(), view.all_seen())

    def test_kinds_of_what_is_told(self):
        for row in ([], [(0, 1)]):
            view = View(Rule(*THREE), row, 0, 0)
            for number in (0, 3, FAR):
                self.assertIs(type(view.seen(number)), int)
                self.assertIs(type(view.count_seen(1, number)), int)
                self.assertIs(type(view.count_seen(0, number)), int)
            self.assertIs(type(view.first_seen(1 if row else 0)), int)
            self.assertIs(type(view.all_seen()), list)


class FirstSeenTest(unittest.TestCase):

    def first_rows(self, rule, row, place, drift, number):
        """Compare the first rows of all values with the rows up to a number, and return the list of them."""
        seen = plain_seen(rule.prime, rule.terms, row, place, drift, number)
        view = View(rule, row, place, drift)
        told = [view.first_seen(value) for value in range(rule.prime)]
        for value, first in enumerate(told):
            with self.subTest(terms=rule.terms, row=row, place=place, drift=drift, value=value):
                if value in seen:
                    self.assertEqual(first, seen.index(value))
                elif first is not None:
                    self.assertGreater(first, number)
                    self.assertEqual(view.seen(first), value)
        return told

    def test_near_rows(self):
        for rule in rules():
            for row in [[]] + begins(rule.prime):
                for place, drift in watchers(rule):
                    self.first_rows(rule, row, place, drift, 30)

    def test_later_rows_and_values_that_are_never_seen(self):
        told = []
        for rule in rules():
            for row in (begins(rule.prime)[0], begins(rule.prime)[2]):
                for place, drift in ((40, 0), (100, 0), (-90, 0), (70, 1)):
                    told += self.first_rows(rule, row, place, drift, 150)
        self.assertGreater(len([first for first in told if first is not None and first > 30]), 10)
        self.assertGreater(told.count(None), 10)

    def test_values_that_are_never_seen(self):
        pairs = Rule(*PAIRS)
        self.assertIsNone(View(pairs, [(0, 1)], -1, 0).first_seen(1))
        self.assertIsNone(View(pairs, [(0, 1)], 1, 1).first_seen(1))
        self.assertIsNone(View(pairs, [(0, 1)], 0, 0).first_seen(0))
        self.assertIsNone(View(pairs, [(0, 1)], 0, 1).first_seen(0))
        # Every other cell alone is given anything.
        self.assertIsNone(View(Rule(3, [(1, 0), (1, 2)]), [(0, 1)], 7, 0).first_seen(2))
        # All cells of column 8, modulo 3, are 0 or 1, as the digits 2 of 8 stand over digits 2 alone.
        self.assertIsNone(View(Rule(3, [(1, 0), (1, 1)]), [(0, 1)], 8, 0).first_seen(2))
        self.assertEqual(View(Rule(3, [(1, 0), (1, 1)]), [(0, 1)], 8, 0).all_seen(), [0, 1])
        for value in (1, 2, 3, 4):
            self.assertIsNone(View(Rule(5, [(1, 0)]), [], 0, 0).first_seen(value))

    def test_rules_of_one_term(self):
        five = Rule(5, [(2, 3)])
        view = View(five, [(1, 3)], 1, 3)
        self.assertEqual([view.first_seen(value) for value in range(5)], [None, 1, 2, 0, 3])
        view = View(five, [(1, 3)], 31, 0)
        self.assertEqual([view.first_seen(value) for value in range(5)], [0, None, 10, None, None])
        self.assertEqual(View(five, [(1, 3)], 32, 0).all_seen(), [0])
        self.assertEqual(View(Rule(2, [(1, 0)]), [(4, 1)], 4, 0).all_seen(), [1])

    def test_by_turns_and_again(self):
        three = Rule(3, [(2, -1), (1, 0), (1, 2)])
        row = [(0, 1), (2, 2)]
        views = [View(three, row, 9, 0), View(three, row, 9, 1), View(three, row, -30, 0)]
        seen = [plain_seen(3, three.terms, row, view.place, view.drift, 200) for view in views]
        for values in ((2, 0, 1), (0, 1, 2), (1, 1, 2)):
            for value in values:
                for view, one in zip(views, seen):
                    self.assertEqual(view.first_seen(value), one.index(value) if value in one else None)
                    view.count_seen(value, 40)


class CountSeenTest(unittest.TestCase):

    def test_near_rows(self):
        for rule, (prime, terms) in zip(rules(), SAMPLES):
            for row in [[]] + begins(prime):
                for place, drift in watchers(rule)[::2]:
                    seen = plain_seen(prime, terms, row, place, drift, 60)
                    view = View(rule, row, place, drift)
                    for number in (0, 1, 2, 8, 25, 31, 60):
                        counts = [view.count_seen(value, number) for value in range(prime)]
                        with self.subTest(terms=terms, row=row, place=place, drift=drift, number=number):
                            self.assertEqual(counts, [seen[:number + 1].count(value) for value in range(prime)])
                            self.assertEqual(sum(counts), number + 1)

    def test_by_turns_and_again(self):
        rule, row = Rule(5, [(1, 0), (1, 1)]), [(0, 3), (4, 1)]
        view, other = View(rule, row, 5, 0), View(rule, row, 5, 1)
        seen, other_seen = [plain_seen(5, rule.terms, row, 5, drift, 60) for drift in (0, 1)]
        for number in (60, 3, 0, 60, 24, 25, 26, 3):
            for value in (4, 0, 1, 1):
                self.assertEqual(view.count_seen(value, number), seen[:number + 1].count(value))
                self.assertEqual(other.count_seen(value, number), other_seen[:number + 1].count(value))


class AllSeenTest(unittest.TestCase):

    def test_just_those_that_are_first_seen(self):
        for rule, (prime, terms) in zip(rules(), SAMPLES):
            for row in [[]] + begins(prime)[1:4]:
                for place, drift in watchers(rule):
                    told = View(rule, row, place, drift).all_seen()
                    view = View(rule, row, place, drift)
                    with self.subTest(terms=terms, row=row, place=place, drift=drift):
                        self.assertEqual(told, [value for value in range(prime)
                                                if view.first_seen(value) is not None])
                        self.assertEqual(sorted(set(plain_seen(prime, terms, row, place, drift, 25)) - set(told)), [])

    def test_told_lists_are_new(self):
        view = View(Rule(*THREE), [(0, 1)], 0, 0)
        told = view.all_seen()
        told.append(9)
        self.assertEqual(view.all_seen(), [1])

    def test_watchers_that_move_in_unlike_ways(self):
        three = Rule(*THREE)
        views = [View(three, [(0, 1)], 0, drift) for drift in range(-3, 4)]
        for _ in range(2):
            self.assertEqual([view.all_seen() for view in views],
                             [[0, 1], [0, 1], [1], [1], [1], [0, 1], [0, 1]])


class ViewErrorsTest(unittest.TestCase):

    def test_row_check(self):
        rule = Rule(3, [(1, 0), (2, 1)])
        for row, wrong in WRONG_ROWS:
            kept = list(row)
            with self.subTest(row=row):
                self.assertEqual(raised(View, rule, row, 0, 0), (InvalidRow, wrong))
                self.assertEqual(raised(View, drift=-8, place=10 ** 12, row=row, rule=rule), (InvalidRow, wrong))
                self.assertEqual(row, kept)

    def test_value_check_and_number_check(self):
        for prime in (2, 3, 5):
            for row in ([], [(0, 1)]):
                view = View(Rule(prime, [(1, 0), (1, 1)]), row, 3, 0)
                for value in (-FARTHEST, -1, prime, prime + 1, FARTHEST):
                    self.assertEqual(raised(view.first_seen, value), (InvalidValue, value))
                    self.assertEqual(raised(view.count_seen, value, 4), (InvalidValue, value))
                    self.assertEqual(raised(view.count_seen, value, -4), (InvalidValue, value))
                    self.assertEqual(raised(view.count_seen, number=-1, value=value), (InvalidValue, value))
                for number in (-1, -2, -FARTHEST):
                    self.assertEqual(raised(view.seen, number), (InvalidNumber, number))
                    self.assertEqual(raised(view.seen, number=number), (InvalidNumber, number))
                    for value in range(prime):
                        self.assertEqual(raised(view.count_seen, value, number), (InvalidNumber, number))

    def test_right_ones_raise_nothing_and_the_watcher_stays(self):
        for prime in (2, 3, 5):
            for row in ([], [(-2, 1), (5, prime - 1)]):
                view = View(Rule(prime, [(1, 0), (1, 1)]), row, 3, 0)
                for wrong in (lambda: view.seen(-1), lambda: view.first_seen(prime), lambda: view.count_seen(0, -1)):
                    self.assertIsNotNone(raised(wrong))
                self.assertIsNone(raised(view.seen, 0))
                self.assertIsNone(raised(view.all_seen))
                for value in range(prime):
                    self.assertIsNone(raised(view.first_seen, value))
                    self.assertIsNone(raised(view.count_seen, value, 0))
                self.assertEqual((view.row, view.place, view.drift), (row, 3, 0))
                self.assertEqual([view.seen(number) for number in range(10)],
                                 plain_seen(prime, view.rule.terms, row, 3, 0, 9))


if __name__ == "__main__":
    unittest.main()
