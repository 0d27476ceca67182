"""Promises 22, 24, 26, 29, 30 and 36: watchers in far rows, at far places, and side by side."""

import unittest

from grownrows.counting import count_row
from grownrows.rows import cell_at, cells_between, ends_of, rows_until
from grownrows.rules import Rule
from grownrows.sheets import count_rows
from grownrows.views import View
from samples import (FAR, POWERS, added, begins, binomial, far_numbers, moved, plain_seen, rules, spread, times, turned)

FAR_PLACES = [10 ** 11, 10 ** 12, 10 ** 12 - 1, 2 ** 39 - 1, 2 ** 39, 3 ** 25, 3 ** 25 - 1, 5 ** 17, 5 ** 17 - 1]


def first_rows(prime, column):
    """Return a dict of the first rows in which values other than 0 stand in a column of binomial coefficients."""
    # Digit by digit, as the theorem of Lucas tells the coefficients.
    firsts, power = {1: 0}, 1
    while column >= power:
        digit = column // power % prime
        new = {}
        for value, number in firsts.items():
            for upper in range(prime):
                product = value * binomial(prime, upper, digit) % prime
                if product:
                    new[product] = min(new.get(product, number + upper * power), number + upper * power)
        firsts, power = new, power * prime
    return firsts


def column_counts(prime, column, number):
    """Return how many binomial coefficients of a column have each value, in the rows before a number."""
    free, tied = [0, 1] + [0] * (prime - 2), [0] * prime
    while number:
        (column, digit), (number, top) = divmod(column, prime), divmod(number, prime)
        new_free, new_tied = [0] * prime, [0] * prime
        for value in range(prime):
            for upper in range(prime):
                product = value * binomial(prime, upper, digit) % prime
                new_free[product] += free[value]
                if upper < top:
                    new_tied[product] += free[value]
                elif upper == top:
                    new_tied[product] += tied[value]
        free, tied = new_free, new_tied
    return tied if column == 0 else [sum(tied)] + [0] * (prime - 1)


class FarSeenTest(unittest.TestCase):

    def test_next_to_powers_of_the_prime(self):
        for rule in rules():
            prime, row = rule.prime, begins(rule.prime)[2]
            power = POWERS[prime]
            later = spread(prime, rule.terms, row, power)
            for place, value in later:
                for drift in (0, -8, 3, rule.terms[0][1]):
                    view = View(rule, row, place - drift * power, drift)
                    self.assertEqual(view.seen(power), value)
                    view = View(rule, row, place + 5 - drift * (power + 1), drift)
                    self.assertEqual(view.seen(power + 1), dict(rule.next_row(later)).get(place + 5, 0))

    def test_binomial_coefficients(self):
        for prime in (2, 3, 5):
            rule = Rule(prime, [(1, 0), (1, 1)])
            for number in far_numbers(prime):
                for column in (0, 1, 10 ** 11, 10 ** 12, prime ** 25, number // 3):
                    self.assertEqual(View(rule, [(0, 1)], column, 0).seen(number), binomial(prime, number, column))
                    self.assertEqual(View(rule, [(0, 1)], -column, 1).seen(number),
                                     binomial(prime, number, number - column))

    def test_watchers_of_the_ends(self):
        for rule in rules():
            prime, (first, least), (last, greatest) = rule.prime, rule.terms[0], rule.terms[-1]
            for row in begins(prime) + begins(prime, 10 ** 12 - 20):
                left, right = View(rule, row, row[0][0], least), View(rule, row, row[-1][0], greatest)
                for number in far_numbers(prime) + [0, 1, 7]:
                    self.assertEqual(left.seen(number), row[0][1] * pow(first, number, prime) % prime)
                    self.assertEqual(right.seen(number), row[-1][1] * pow(last, number, prime) % prime)
                    if number > 0:
                        self.assertEqual(View(rule, row, row[0][0] - 1, least).seen(number), 0)
                        self.assertEqual(View(rule, row, row[-1][0] + 1, greatest).seen(number), 0)

    def test_the_cell_at_the_place(self):
        for rule in rules():
            row = begins(rule.prime, -4)[3]
            for number in far_numbers(rule.prime)[:4]:
                first, last = ends_of(rule, row, number)
                for place in (first, last, (first + last) // 2, first + 10 ** 11):
                    for drift in (-8, 0, 1):
                        self.assertEqual(View(rule, row, place - drift * number, drift).seen(number),
                                         cell_at(rule, row, number, place))


class FarFirstsTest(unittest.TestCase):

    def test_the_rule_that_adds_the_left_neighbour(self):
        for prime in (2, 3, 5):
            rule = Rule(prime, [(1, 0), (1, 1)])
            for column in FAR_PLACES + [prime ** 16 + 1, 2 * prime ** 15 - 1, (prime ** 17 - 1) // (prime - 1)]:
                firsts = first_rows(prime, column)
                view = View(rule, [(0, 1)], column, 0)
                mirrored = View(rule, [(0, 1)], -column, 1)
                with self.subTest(prime=prime, column=column):
                    for value in range(1, prime):
                        self.assertEqual(view.first_seen(value), firsts.get(value))
                        self.assertEqual(mirrored.first_seen(value), firsts.get(value))
                    self.assertEqual(view.first_seen(0), 0)
                    self.assertEqual(view.all_seen(), [0] + sorted(firsts))

    def test_a_place_that_one_end_reaches(self):
        for rule in rules():
            prime, (first, least), (last, greatest) = rule.prime, rule.terms[0], rule.terms[-1]
            for row in (begins(prime)[0], begins(prime)[2], begins(prime, 10 ** 12 - 20)[3]):
                for number in (10 ** 9, 10 ** 11, prime ** 15, prime ** 15 - 1):
                    for drift in range(-8, 9):
                        left, right = least - drift, greatest - drift
                        if left < 0:
                            view = View(rule, row, row[0][0] + left * number, drift)
                            value = row[0][1] * pow(first, number, prime) % prime
                            self.assertEqual(view.first_seen(value), number)
                            self.assertEqual(view.first_seen(0), 0)
                        if right > 0:
                            view = View(rule, row, row[-1][0] + right * number, drift)
                            value = row[-1][1] * pow(last, number, prime) % prime
                            self.assertEqual(view.first_seen(value), number)

    def test_no_row_ahead_of_the_first_one(self):
        for rule in rules():
            prime, row = rule.prime, begins(rule.prime, 3)[2]
            for place in FAR_PLACES[:4] + [-10 ** 12, 1 - 5 ** 17]:
                for drift in (0, 3, -8):
                    left, right = rule.terms[0][1] - drift, rule.terms[-1][1] - drift
                    view = View(rule, row, place, drift)
                    # Ahead of this row neither end is there.
                    way, speed = (place - row[-1][0], right) if place > 0 else (row[0][0] - place, -left)
                    if speed <= 0:
                        self.assertEqual([view.first_seen(value) for value in range(prime)], [0] + [None] * (prime - 1))
                        continue
                    there = -(-way // speed)
                    for value in range(1, prime):
                        first = view.first_seen(value)
                        if first is not None:
                            self.assertGreaterEqual(first, there)
                            self.assertEqual(view.seen(first), value)
                        for number in range(there, there + 25 if first is None else min(first, there + 25)):
                            self.assertNotEqual(cell_at(rule, row, number, place + drift * number), value)

    def test_watchers_that_are_left_behind(self):
        # Both ends pass this place; later on there is nothing but 0.
        five = Rule(5, [(3, 6), (1, 7), (4, 8)])
        view = View(five, [(0, 1)], 8 * 10 ** 11, 0)
        self.assertEqual(view.first_seen(pow(4, 10 ** 11, 5)), 10 ** 11)
        for value in range(1, 5):
            first = view.first_seen(value)
            self.assertTrue(first is None or 10 ** 11 <= first <= 8 * 10 ** 11 // 6)
        self.assertEqual([View(five, [(10 ** 12, 1)], -10 ** 12, 0).first_seen(value) for value in range(5)],
                         [0] + [None] * 4)


class FarCountsTest(unittest.TestCase):

    def test_the_rule_that_adds_the_left_neighbour(self):
        for prime in (2, 3, 5):
            rule = Rule(prime, [(1, 0), (1, 1)])
            for column in (0, 1, 7, 10 ** 11, 5 ** 17 - 1, 3 ** 25):
                view, mirrored = View(rule, [(0, 1)], column, 0), View(rule, [(0, 1)], -column, 1)
                for number in (column, 10 ** 12, 10 ** 12 + 1, prime ** 17 - 1, prime ** 17, FAR, POWERS[prime] - 1):
                    counts = column_counts(prime, column, number + 1)
                    with self.subTest(prime=prime, column=column, number=number):
                        self.assertEqual([view.count_seen(value, number) for value in range(prime)], counts)
                        self.assertEqual([mirrored.count_seen(value, number) for value in range(prime)], counts)

    def test_one_row_more_adds_the_value_that_is_seen_there(self):
        for rule in rules():
            prime = rule.prime
            for row in begins(prime)[1:4]:
                for place, drift in ((0, 0), (9, 1), (10 ** 12, rule.terms[-1][1] - 1), (-10 ** 11, -8)):
                    view = View(rule, row, place, drift)
                    for number in (10 ** 12, prime ** 20 - 1, prime ** 20, POWERS[prime], FAR):
                        before = [view.count_seen(value, number - 1) for value in range(prime)]
                        counts = [view.count_seen(value, number) for value in range(prime)]
                        before[view.seen(number)] += 1
                        self.assertEqual(counts, before)
                        self.assertEqual(sum(counts), number + 1)

    def test_the_first_cell(self):
        for rule in rules():
            prime, (coefficient, offset) = rule.prime, rule.terms[0]
            for row in begins(prime):
                view = View(rule, row, row[0][0], offset)
                values = [row[0][1] * pow(coefficient, at, prime) % prime for at in range(prime - 1)]
                for number in far_numbers(prime):
                    counts = [0] * prime
                    for at, value in enumerate(values):
                        counts[value] += (number - at) // (prime - 1) + 1
                    self.assertEqual([view.count_seen(value, number) for value in range(prime)], counts)


class AlikeWatchersTest(unittest.TestCase):

    def told(self, view):
        """Return what a watcher tells of near and far rows."""
        prime = view.rule.prime
        numbers = [0, 1, 9, 10 ** 6, 10 ** 12 + 1, FAR]
        return ([view.seen(number) for number in numbers], [view.first_seen(value) for value in range(prime)],
                [view.count_seen(value, number) for value in range(prime) for number in numbers], view.all_seen())

    def test_moved_and_turned_about(self):
        for rule in rules():
            row = begins(rule.prime)[2]
            for place, drift in ((0, 0), (4, 1), (-30, 0), (10 ** 9, 0), (-10 ** 9, -2), (0, rule.terms[-1][1])):
                view = View(rule, row, place, drift)
                told = self.told(view)
                for by in (1, -10 ** 11, 10 ** 12 - 10 ** 9 - 20):
                    self.assertEqual(self.told(View(rule, moved(row, by), place + by, drift)), told)
                self.assertEqual(self.told(View(rule.mirrored(), turned(row), -place, -drift)), told)

    def test_offsets_in_the_place_of_the_way(self):
        for rule in rules():
            row = begins(rule.prime)[3]
            for place, drift in ((0, 1), (-3, -1), (10 ** 9, 2), (2, 0)):
                told = self.told(View(rule, row, place, drift))
                for by in (-2, 1):
                    other = Rule(rule.prime, [(coefficient, offset + by) for coefficient, offset in rule.terms])
                    self.assertEqual(self.told(View(other, row, place, drift + by)), told)

    def test_the_begin_times_a_value(self):
        for rule in rules():
            prime, row = rule.prime, begins(rule.prime)[2]
            for place, drift in ((0, 0), (5, 1), (10 ** 9, 0)):
                view = View(rule, row, place, drift)
                for factor in range(2, prime):
                    other = View(rule, times(prime, row, factor), place, drift)
                    for value in range(prime):
                        multiple = value * factor % prime
                        self.assertEqual(other.first_seen(multiple), view.first_seen(value))
                        for number in (9, 10 ** 12, FAR):
                            self.assertEqual(other.count_seen(multiple, number), view.count_seen(value, number))
                    for number in (0, 9, 10 ** 12, FAR):
                        self.assertEqual(other.seen(number), view.seen(number) * factor % prime)


class LaterBeginsTest(unittest.TestCase):

    def test_watchers_that_begin_some_rows_later(self):
        for rule in rules():
            prime, row = rule.prime, begins(rule.prime)[4]
            rows = rows_until(rule, row, 40)
            for place, drift in ((0, 0), (-25, 1), (10 ** 11, 0)):
                view = View(rule, row, place, drift)
                head = [view.seen(number) for number in range(40)]
                for by in (1, 13, 40):
                    later = View(rule, rows[by], place + by * drift, drift)
                    for number in (0, 1, 60, 10 ** 12, FAR):
                        self.assertEqual(later.seen(number), view.seen(number + by))
                        for value in range(prime):
                            self.assertEqual(later.count_seen(value, number) + head[:by].count(value),
                                             view.count_seen(value, number + by))
                    for value in range(prime):
                        if value not in head[:by]:
                            first = view.first_seen(value)
                            self.assertEqual(later.first_seen(value), None if first is None else first - by)

    def test_two_begins_added_up(self):
        for rule in rules():
            prime = rule.prime
            row, other_row = begins(prime)[2], begins(prime, 5)[3]
            both = added(prime, row, other_row)
            for place, drift in ((0, 0), (3, -1), (10 ** 11, 1)):
                views = [View(rule, one, place, drift) for one in (row, other_row, both)]
                for number in [0, 1, 2, 30] + far_numbers(prime)[:4]:
                    one, other, total = [view.seen(number) for view in views]
                    self.assertEqual(total, (one + other) % prime)


class SideBySideTest(unittest.TestCase):

    def test_watchers_of_a_stretch(self):
        for rule in rules():
            prime, row = rule.prime, begins(rule.prime)[2]
            number = 9
            rows = rows_until(rule, row, number)
            low = min(place for one in rows for place, _ in one) - 3
            high = max(place for one in rows for place, _ in one) + 3
            views = [View(rule, row, place, 0) for place in range(low, high + 1)]
            for at in (0, 1, number):
                self.assertEqual([view.seen(at) for view in views], cells_between(rule, row, at, low, high))
            for value in range(1, prime):
                self.assertEqual([view.seen(number) for view in views].count(value),
                                 count_row(rule, row, number, value))
                self.assertEqual(sum(view.count_seen(value, number) for view in views),
                                 count_rows(rule, row, number, value))
            for at, view in enumerate(views):
                lit = [told for told, one in enumerate(rows) if low + at in dict(one)]
                firsts = [view.first_seen(value) for value in range(1, prime)]
                firsts = [first for first in firsts if first is not None]
                if lit:
                    self.assertEqual(min(firsts), lit[0])
                else:
                    self.assertTrue(all(first > number for first in firsts))

    def test_watchers_of_far_rows(self):
        for rule in rules():
            row = begins(rule.prime)[3]
            for number in far_numbers(rule.prime)[:3]:
                first, last = ends_of(rule, row, number)
                for low in (first - 5, last - 15, (first + last) // 2):
                    views = [View(rule, row, place, 0) for place in range(low, low + 20)]
                    self.assertEqual([view.seen(number) for view in views],
                                     cells_between(rule, row, number, low, low + 19))

    def test_nobody_outside_sees_anything_else_than_0(self):
        for rule in rules():
            row = begins(rule.prime)[2]
            least, greatest = rule.terms[0][1], rule.terms[-1][1]
            for view in (View(rule, row, row[0][0] - 1, least), View(rule, row, row[-1][0] + 1, greatest),
                         View(rule, row, row[0][0] - 10 ** 11, min(least, 7)),
                         View(rule, row, row[-1][0] + 10 ** 11, max(greatest, -7))):
                self.assertEqual(view.all_seen(), [0])
                self.assertEqual(view.first_seen(0), 0)
                for value in range(1, rule.prime):
                    self.assertIsNone(view.first_seen(value))
                    self.assertEqual(view.count_seen(value, FAR), 0)
                self.assertEqual(view.count_seen(0, FAR), FAR + 1)


class PlainTest(unittest.TestCase):

    def test_rows_some_hundred_steps_away(self):
        for prime, terms in ((2, [(1, -2), (1, 0), (1, 1)]), (3, [(2, 1), (1, 2)]), (5, [(4, -1), (3, 0), (1, 1)])):
            rule, row = Rule(prime, terms), begins(prime)[2]
            for place, drift in ((0, 0), (150, 0), (-200, -1), (90, 1)):
                seen = plain_seen(prime, terms, row, place, drift, 260)
                view = View(rule, row, place, drift)
                for number in (63, 64, 65, 80, 81, 82, 124, 125, 126, 242, 243, 255, 256, 257, 260):
                    self.assertEqual([view.count_seen(value, number) for value in range(prime)],
                                     [seen[:number + 1].count(value) for value in range(prime)])
                for value in set(seen):
                    self.assertEqual(view.first_seen(value), seen.index(value))


if __name__ == "__main__":
    unittest.main()
