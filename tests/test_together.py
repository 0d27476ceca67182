"""Promises 64, 65, 67, 70, 71, 80, 84 and 86: what different modules tell of the same rows goes together."""

import unittest

from grownrows.back import came_from, row_before, rows_back, steps_between
from grownrows.counting import count_between, count_row, nth_place, place_index
from grownrows.gaps import count_gaps, gap_at, longest_gap
from grownrows.parting import parting
from grownrows.rows import cell_at, cells_between, ends_of, rows_until
from grownrows.rules import Rule
from grownrows.sheets import count_lit, count_rows
from grownrows.views import View
from samples import (FAR, SAMPLES, begins, far_lows, far_numbers, gaps_of, moved, plain_rows, row_of, rules, spread,
                     turned)


def longest_of(gaps):
    """Return the first longest one of gaps, None for no gap."""
    return max(gaps, key=lambda gap: (gap[0], -gap[1]), default=None)


def counts_of(rule, row, number):
    """Return how many cells of a row have each value other than 0."""
    return [count_row(rule, row, number, value) for value in range(1, rule.prime)]


def totals_of(rule, row, number):
    """Return how many cells of all rows up to one have each value other than 0."""
    return [count_rows(rule, row, number, value) for value in range(1, rule.prime)]


class WalkedRowsTest(unittest.TestCase):

    def test_all_that_is_told_of_near_rows(self):
        for rule, (prime, terms) in zip(rules(), SAMPLES):
            for row in (begins(prime)[1], begins(prime)[2]):
                walk = [row_of(cells) for cells in plain_rows(prime, terms, row, 60)]
                for number in (0, 1, 7, 26, 32, 60):
                    with self.subTest(terms=terms, row=row, number=number):
                        self.check_cells(rule, row, number, walk[number])
                        self.check_gaps(rule, row, number, gaps_of(walk[number]))
                        self.check_walk(rule, row, number, walk)

    def check_cells(self, rule, row, number, cells):
        first, last = cells[0][0], cells[-1][0]
        values = [dict(cells).get(place, 0) for place in range(first - 2, first + 60)]
        self.assertEqual(cells_between(rule, row, number, first - 2, first + 59), values)
        self.assertEqual(cell_at(rule, row, number, last), cells[-1][1])
        self.assertEqual(ends_of(rule, row, number), (first, last))
        for value in range(1, rule.prime):
            places = [place for place, told in cells if told == value]
            self.assertEqual(count_row(rule, row, number, value), len(places))
            for index in (0, len(places) // 2, len(places) - 1):
                if 0 <= index < len(places):
                    self.assertEqual(nth_place(rule, row, number, value, index), places[index])
                    self.assertEqual(place_index(rule, row, number, places[index]), index)
        self.assertEqual(count_between(rule, row, number, 0, first - 1, last + 1), last - first + 3 - len(cells))

    def check_gaps(self, rule, row, number, gaps):
        self.assertEqual(longest_gap(rule, row, number), longest_of(gaps))
        self.assertEqual(count_gaps(rule, row, number, 2), len([gap for gap in gaps if gap[0] >= 2]))
        for length, place in gaps[:2] + gaps[-1:]:
            self.assertEqual(gap_at(rule, row, number, place + length // 2), (length, place))

    def check_walk(self, rule, row, number, walk):
        told = [value for one in walk[:number + 1] for _, value in one]
        self.assertEqual(totals_of(rule, row, number), [told.count(value) for value in range(1, rule.prime)])
        self.assertEqual(count_lit(rule, row, number), len(told))
        for place, drift in ((0, 0), (5, 1)):
            view = View(rule, row, place, drift)
            seen = [dict(one).get(place + drift * at, 0) for at, one in enumerate(walk[:number + 1])]
            self.assertEqual([view.seen(at) for at in range(number + 1)], seen)
            for value in range(rule.prime):
                self.assertEqual(view.count_seen(value, number), seen.count(value))
                if value in seen:
                    self.assertEqual(view.first_seen(value), seen.index(value))
        if number > 0:
            self.assertEqual(row_before(rule, walk[number]), walk[number - 1])


class SpreadRowsTest(unittest.TestCase):

    def test_a_row_times_a_power_of_the_prime(self):
        for rule in rules():
            prime, begin = rule.prime, [(0, rule.prime - 1)]
            for number in (1, 6, 31, 40):
                cells = rows_until(rule, begin, number)[-1]
                for power in (prime, prime ** 9, prime ** 30 if prime < 5 else prime ** 25):
                    far = number * power
                    with self.subTest(terms=rule.terms, number=number, power=power):
                        self.assertEqual(ends_of(rule, begin, far),
                                         tuple(power * place for place in ends_of(rule, begin, number)))
                        self.assertEqual(counts_of(rule, begin, far), counts_of(rule, begin, number))
                        self.check_spread(rule, begin, number, power, cells)

    def check_spread(self, rule, begin, number, power, cells):
        far = number * power
        for place, value in cells[:4] + cells[-2:]:
            self.assertEqual(cells_between(rule, begin, far, power * place - 1, power * place + 1), [0, value, 0])
            index = place_index(rule, begin, number, place)
            self.assertEqual(place_index(rule, begin, far, power * place), index)
            self.assertEqual(nth_place(rule, begin, far, value, index), power * place)
            for drift in (0, 1, -8):
                view = View(rule, begin, power * (place - drift * number), drift)
                self.assertEqual(view.seen(far), value)
        gaps = gaps_of([(power * place, value) for place, value in cells])
        self.assertEqual(longest_gap(rule, begin, far), longest_of(gaps))
        self.assertEqual(count_gaps(rule, begin, far, 1), len(gaps))
        for length, place in gaps[:2]:
            self.assertEqual(gap_at(rule, begin, far, place), (length, place))

    def test_all_rows_up_to_a_power_less_1(self):
        # Each row before the power times the prime is a row before the power and, so many times as far apart, one
        # before the prime; where the rule is narrow, their cells do not meet.
        for prime in (2, 3, 5):
            rule = Rule(prime, [(1, 0), (1, 1)])
            for power in (prime, prime ** 9, prime ** 25):
                lit = count_lit(rule, [(0, 1)], power - 1)
                self.assertEqual(count_lit(rule, [(0, 1)], power * prime - 1), lit * prime * (prime + 1) // 2)


class MirroredTest(unittest.TestCase):

    def test_mirrored_at_place_0(self):
        for rule in rules():
            prime, other = rule.prime, rule.mirrored()
            row = begins(prime)[2]
            for number in [0, 5, 26] + far_numbers(prime)[:3]:
                first, last = ends_of(rule, row, number)
                self.assertEqual(ends_of(other, turned(row), number), (-last, -first))
                self.assertEqual(counts_of(other, turned(row), number), counts_of(rule, row, number))
                self.assertEqual(totals_of(other, turned(row), number), totals_of(rule, row, number))
                self.assertEqual(count_gaps(other, turned(row), number, 2), count_gaps(rule, row, number, 2))
                gap = longest_gap(rule, row, number)
                self.assertEqual((longest_gap(other, turned(row), number) or (0, 0))[0], (gap or (0, 0))[0])
                if gap is not None:
                    length, place = gap
                    self.assertEqual(gap_at(other, turned(row), number, -place), (length, -place - length + 1))
                for low in far_lows(rule, row, number):
                    self.assertEqual(cells_between(other, turned(row), number, -low - 30, -low),
                                     cells_between(rule, row, number, low, low + 30)[::-1])
            self.check_alike(rule, row, other, turned(row), turned, lambda place: -place, lambda drift: -drift)

    def test_moved_by_a_number(self):
        for rule in rules():
            prime, row = rule.prime, begins(rule.prime)[2]
            for by in (1, -13, 10 ** 11):
                for number in [3] + far_numbers(prime)[:2]:
                    first, last = ends_of(rule, row, number)
                    self.assertEqual(ends_of(rule, moved(row, by), number), (first + by, last + by))
                    self.assertEqual(counts_of(rule, moved(row, by), number), counts_of(rule, row, number))
                    self.assertEqual(totals_of(rule, moved(row, by), number), totals_of(rule, row, number))
                    gap = longest_gap(rule, row, number)
                    self.assertEqual(longest_gap(rule, moved(row, by), number), gap and (gap[0], gap[1] + by))
                    for low in far_lows(rule, row, number):
                        self.assertEqual(cells_between(rule, moved(row, by), number, low + by, low + by + 30),
                                         cells_between(rule, row, number, low, low + 30))
                self.check_alike(rule, row, rule, moved(row, by), lambda one: moved(one, by),
                                 lambda place: place + by, lambda drift: drift)

    def test_all_offsets_moved(self):
        for rule in rules():
            prime, row = rule.prime, begins(rule.prime)[2]
            for by in (-1, 2):
                other = Rule(prime, [(coefficient, offset + by) for coefficient, offset in rule.terms])
                for number in [0, 3] + far_numbers(prime)[:2]:
                    first, last = ends_of(rule, row, number)
                    self.assertEqual(ends_of(other, row, number), (first + by * number, last + by * number))
                    self.assertEqual(counts_of(other, row, number), counts_of(rule, row, number))
                    self.assertEqual(totals_of(other, row, number), totals_of(rule, row, number))
                    for low in far_lows(rule, row, number):
                        self.assertEqual(cells_between(other, row, number, low + by * number, low + by * number + 30),
                                         cells_between(rule, row, number, low, low + 30))
                for place, drift in ((0, 0), (9, -1)):
                    view, other_view = View(rule, row, place, drift), View(other, row, place, drift + by)
                    self.assertEqual([other_view.first_seen(value) for value in range(prime)],
                                     [view.first_seen(value) for value in range(prime)])
                after = rule.next_row(row)
                self.assertEqual(row_before(other, moved(after, by)), row)
                if len(rule.terms) > 1:
                    self.assertEqual(steps_between(other, row, moved(spread(prime, rule.terms, row, prime ** 20),
                                                                     by * prime ** 20)), prime ** 20)

    def check_alike(self, rule, row, other, other_row, change, place_of, drift_of):
        """Check that watchers, first rows, partings, rows before and steps between go with a change."""
        prime = rule.prime
        spots = [(0, 0), (4, 1), (-7, 0)]
        views = [View(rule, row, place, drift) for place, drift in spots]
        others = [View(other, other_row, place_of(place), drift_of(drift)) for place, drift in spots]
        for view, other_view in zip(views, others):
            for number in (0, 1, 17, 10 ** 12, FAR):
                self.assertEqual(other_view.seen(number), view.seen(number))
            for value in range(prime):
                self.assertEqual(other_view.first_seen(value), view.first_seen(value))
                self.assertEqual(other_view.count_seen(value, 10 ** 12), view.count_seen(value, 10 ** 12))
        for at in range(len(spots)):
            self.assertEqual(parting(others[0], others[at]), parting(views[0], views[at]))
        later = rows_until(rule, row, 9)
        self.assertEqual(rows_until(other, other_row, 9), [change(one) for one in later])
        self.assertEqual(row_before(other, change(later[9])), change(later[8]))
        self.assertEqual(rows_back(other, change(later[9])), rows_back(rule, later[9]))
        self.assertEqual(came_from(other, change(later[9]), 7), change(later[2]))
        if rule.terms != [(rule.terms[0][0], 0)]:
            self.assertEqual(steps_between(other, other_row, change(later[9])), 9)


class WatchersTogetherTest(unittest.TestCase):

    def test_first_rows_by_count(self):
        for rule in rules():
            prime = rule.prime
            for row in begins(prime)[:3]:
                for place, drift in ((0, 0), (33, 1), (10 ** 11, 0), (-10 ** 12, -1)):
                    view = View(rule, row, place, drift)
                    told = view.all_seen()
                    for value in range(prime):
                        first = view.first_seen(value)
                        self.assertEqual(first is not None, value in told)
                        if first is None:
                            self.assertEqual(view.count_seen(value, FAR), 0)
                        else:
                            self.assertEqual(view.seen(first), value)
                            self.assertEqual(view.count_seen(value, first), 1)
                            if first > 0:
                                self.assertEqual(view.count_seen(value, first - 1), 0)

    def test_the_drift_within_the_offsets(self):
        for rule in rules():
            prime, row = rule.prime, begins(rule.prime)[2]
            for place, drift in ((3, 1), (-8, -2), (10 ** 10, 3)):
                view = View(rule, row, place, drift)
                within = Rule(prime, [(coefficient, offset - drift) for coefficient, offset in rule.terms])
                other = View(within, row, place, 0)
                for number in (0, 5, 10 ** 12, FAR):
                    self.assertEqual(other.seen(number), view.seen(number))
                    self.assertEqual(other.count_seen(1, number), view.count_seen(1, number))
                self.assertEqual(other.all_seen(), view.all_seen())
                self.assertEqual([other.first_seen(value) for value in range(prime)],
                                 [view.first_seen(value) for value in range(prime)])

    def test_watchers_that_part_and_three_together(self):
        for prime, terms in ((2, [(1, -1), (1, 0), (1, 1)]), (3, [(2, 0), (1, 1)]), (5, [(1, -1), (3, 0), (4, 1)])):
            rule, row = Rule(prime, terms), [(0, 1), (3, prime - 1)]
            views = [View(rule, row, place, drift) for place in (-2, 0, 7, 19) for drift in (0, 1)]
            for at, view in enumerate(views):
                for other_view in views[at + 1:]:
                    row_number = parting(view, other_view)
                    if row_number is None:
                        self.assertEqual(view.all_seen(), other_view.all_seen())
                        self.assertEqual(view.count_seen(0, FAR), other_view.count_seen(0, FAR))
                        continue
                    self.assertNotEqual(view.seen(row_number), other_view.seen(row_number))
                    self.assertEqual([view.seen(number) for number in range(row_number)],
                                     [other_view.seen(number) for number in range(row_number)])
                    for third in views[:3]:
                        rows = [told for told in (row_number, parting(view, third), parting(other_view, third))
                                if told is not None]
                        self.assertGreaterEqual(rows.count(min(rows)), 2)


class BackTogetherTest(unittest.TestCase):

    def test_grown_rows_and_their_begins(self):
        for rule in rules():
            for row in begins(rule.prime):
                rows = rows_until(rule, row, 40)
                for number in (1, 2, 9, 40):
                    self.assertEqual(came_from(rule, rows[number], number), row)
                    before = row_before(rule, rows[number])
                    self.assertEqual(came_from(rule, before, number - 1), row)
                    if rule.terms[0][1] != 0 or len(rule.terms) > 1:
                        self.assertEqual(steps_between(rule, row, rows[number]), number)
                        self.assertEqual(steps_between(rule, before, rows[number]), 1)

    def test_far_rows_of_few_cells(self):
        for rule in rules():
            prime, terms = rule.prime, rule.terms
            if len(terms) > 1:
                row = begins(prime)[2]
                near, far = prime ** 3, prime ** 38
                middle = spread(prime, terms, row, near)
                end = spread(prime, terms, middle, far)
                ways = [steps_between(rule, row, middle), steps_between(rule, middle, end)]
                self.assertEqual(ways, [near, far])
                self.assertEqual(steps_between(rule, row, end), sum(ways))
                self.assertEqual(rows_back(rule, middle), near + rows_back(rule, row))

    def test_rows_there_and_back(self):
        for rule in rules():
            row = begins(rule.prime)[3]
            rows = rows_until(rule, row, 40)
            one_term = len(rule.terms) == 1
            for number, (one, after) in enumerate(zip(rows, rows[1:])):
                self.assertEqual(rule.next_row(one), after)
                self.assertEqual(row_before(rule, after), one)
                self.assertEqual(rows_back(rule, after), None if one_term else rows_back(rule, rows[0]) + number + 1)
            for number in (0, 1, 7, 20):
                for other in (0, 3, 20, 39):
                    # A rule of one term without an offset comes back to the same rows.
                    if not one_term or rule.terms[0][1] != 0:
                        self.assertEqual(steps_between(rule, rows[number], rows[other]),
                                         other - number if other >= number else None)

    def test_two_begins_that_lead_to_one_row_are_one(self):
        for rule in rules():
            all_begins = begins(rule.prime) + [moved(begins(rule.prime)[2], 1), [(0, 1), (1, 1)]]
            for number in (1, 5, 16):
                ends = [rows_until(rule, row, number)[-1] for row in all_begins]
                for row, end in zip(all_begins, ends):
                    self.assertEqual([other == end for other in ends], [other == row for other in all_begins])


class SameCellsTest(unittest.TestCase):

    def test_a_watcher_sees_the_cell(self):
        for rule in rules():
            row = begins(rule.prime)[2]
            for number in [0, 1, 33] + far_numbers(rule.prime)[:4]:
                for low in far_lows(rule, row, number):
                    cells = cells_between(rule, row, number, low, low + 6)
                    for drift in (0, 5, -8):
                        views = [View(rule, row, low + at - drift * number, drift) for at in range(7)]
                        self.assertEqual([view.seen(number) for view in views], cells)
                    self.assertEqual([cell_at(rule, row, number, low + at) for at in range(7)], cells)

    def test_the_ends_are_seen_by_watchers_that_move_with_them(self):
        for rule in rules():
            row = begins(rule.prime, 5)[3]
            left = View(rule, row, row[0][0], rule.terms[0][1])
            right = View(rule, row, row[-1][0], rule.terms[-1][1])
            for number in [0, 1, 33] + far_numbers(rule.prime):
                first, last = ends_of(rule, row, number)
                self.assertEqual((left.place + left.drift * number, right.place + right.drift * number), (first, last))
                self.assertEqual(left.seen(number), cell_at(rule, row, number, first))
                self.assertEqual(right.seen(number), cell_at(rule, row, number, last))
                self.assertNotIn(0, (left.seen(number), right.seen(number)))
            self.assertNotIn(0, left.all_seen() + right.all_seen())


class LaterRowsAsBeginsTest(unittest.TestCase):

    def test_rows_that_rows_until_told(self):
        for rule in rules():
            prime, row = rule.prime, begins(rule.prime)[4]
            rows = rows_until(rule, row, 40)
            for by in (9, 40):
                later = rows[by]
                for number in (0, 1, 31, prime ** 20, FAR):
                    with self.subTest(terms=rule.terms, by=by, number=number):
                        self.check_later(rule, row, later, by, number)
                self.assertEqual(row_before(rule, later), rows[by - 1])
                if rule.terms != [(rule.terms[0][0], 0)]:
                    self.assertEqual(steps_between(rule, row, later), by)
                for number in (0, 5, FAR):
                    own = [[value for one in rows[:by] for _, value in one].count(value) for value in range(1, prime)]
                    self.assertEqual([one + other for one, other in zip(totals_of(rule, later, number), own)],
                                     totals_of(rule, row, number + by))

    def check_later(self, rule, row, later, by, number):
        first, last = ends_of(rule, later, number)
        self.assertEqual((first, last), ends_of(rule, row, number + by))
        self.assertEqual(counts_of(rule, later, number), counts_of(rule, row, number + by))
        self.assertEqual(longest_gap(rule, later, number), longest_gap(rule, row, number + by))
        self.assertEqual(count_gaps(rule, later, number, 1), count_gaps(rule, row, number + by, 1))
        place = nth_place(rule, later, number, later[0][1], 0) if count_row(rule, later, number, later[0][1]) else first
        self.assertEqual(place_index(rule, later, number, place), place_index(rule, row, number + by, place))
        for low in (first - 3, last - 20, (first + last) // 2):
            self.assertEqual(cells_between(rule, later, number, low, low + 30),
                             cells_between(rule, row, number + by, low, low + 30))
            self.assertEqual(cell_at(rule, later, number, low), cell_at(rule, row, number + by, low))


if __name__ == "__main__":
    unittest.main()
