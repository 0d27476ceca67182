"""Promises 31 to 35: the first row in which two watchers see unlike values."""

import unittest
from functools import lru_cache

from grownrows.errors import UnlikePrimes
from grownrows.parting import are_alike, parting
from grownrows.rules import Rule
from grownrows.views import View
from samples import PAIRS, THREE, added, moved, plain_seen, raised, times, turned

# Rules with offsets from -4 to 4: all three primes, one term and several, and the greatest widths.
RULES = [
    PAIRS,
    THREE,
    (2, [(1, -4), (1, -1), (1, 0)]),
    (2, [(1, 0), (1, 1), (1, 2), (1, 3), (1, 4)]),
    (2, [(1, 3)]),
    (3, [(1, 0), (1, 1)]),
    (3, [(2, -1), (1, 0), (1, 2)]),
    (3, [(2, 0)]),
    (5, [(1, -4), (3, -3)]),
    (5, [(4, 2), (1, 3), (2, 4)]),
    (5, [(3, -1)]),
]


def near_begins(prime):
    """Return begins of a single cell, of two, and of cells as far apart as they may be."""
    return [[(0, 1)], [(-3, prime - 1), (1, 1)], [(-20, 1), (-14, prime - 1), (-8, 1)],
            [(at, 1 + at * at % (prime - 1)) for at in range(8, 21)]]


def views_of(prime, number):
    """Return so many watchers of a prime, with rules, begins, places and drifts by turns."""
    rules = [Rule(*one) for one in RULES if one[0] == prime]
    all_begins = near_begins(prime)
    return [View(rules[at % len(rules)], all_begins[at // 2 % 4], (7 * at) % 41 - 20, at % 9 - 4)
            for at in range(number)]


def walked(view, number=40):
    """Return what a watcher sees in the rows up to a number, step by step."""
    return list(kept_walk(view.rule.prime, tuple(view.rule.terms), tuple(view.row), view.place, view.drift, number))


@lru_cache(maxsize=None)
def kept_walk(*told):
    """Return the list of plain_seen, worked out once."""
    return plain_seen(*told)


def first_unlike(seen, other_seen):
    """Return the first index at which two lists are unlike, None if they are not."""
    return next((at for at, (one, other) in enumerate(zip(seen, other_seen)) if one != other), None)


class PartingTestCase(unittest.TestCase):

    def check_parting(self, view, other_view, number=40):
        """Compare parting with the rows up to a number, either way about, and return it."""
        told = parting(view, other_view)
        walked_first = first_unlike(walked(view, number), walked(other_view, number))
        if walked_first is not None:
            self.assertEqual(told, walked_first)
        elif told is not None:
            self.assertGreater(told, number)
            self.assertNotEqual(view.seen(told), other_view.seen(told))
        else:
            for at in (number + 1, 10 ** 6, 2 ** 64 - 1, 3 ** 40 + 1, 5 ** 30 - 1, 10 ** 30):
                self.assertEqual(view.seen(at), other_view.seen(at))
        self.assertEqual(parting(other_view, view), told)
        self.assertIs(are_alike(view, other_view), told is None)
        self.assertIs(are_alike(other_view, view), told is None)
        return told


class ExampleTest(unittest.TestCase):

    def test_the_example_of_the_document(self):
        pairs, three, begin = Rule(2, [(1, 0), (1, 1)]), Rule(2, [(1, -1), (1, 0), (1, 1)]), [(0, 1)]
        left, six = View(pairs, begin, 0, 0), View(pairs, begin, 6, 0)
        middle, last = View(three, begin, 0, 0), View(pairs, begin, 0, 1)
        self.assertEqual(parting(View(pairs, begin, 1, 0), View(pairs, begin, 3, 0)), 1)
        self.assertTrue(are_alike(left, middle))
        self.assertIsNone(parting(left, last))
        self.assertEqual(parting(left, six), 0)


class FirstUnlikeTest(PartingTestCase):

    def test_any_watchers(self):
        for prime in (2, 3, 5):
            views = views_of(prime, 36)
            for at, view in enumerate(views):
                for other_view in views[at + 1::5]:
                    with self.subTest(prime=prime, at=at):
                        self.check_parting(view, other_view)

    def test_the_same_but_for_the_place_or_the_way(self):
        for prime, terms in RULES:
            rule = Rule(prime, terms)
            for row in near_begins(prime):
                view = View(rule, row, row[0][0] + 2, 0)
                for place, drift in ((row[0][0] + 1, 0), (row[0][0] + 3, 0), (row[0][0] + 2, 1), (row[0][0], -4)):
                    self.check_parting(view, View(rule, row, place, drift))

    def test_the_same_but_for_the_rule(self):
        for prime, terms in RULES:
            rule = Rule(prime, terms)
            others = [Rule(prime, [((prime - 1) * coefficient % prime or 1, offset) for coefficient, offset in terms]),
                      Rule(prime, terms[:-1] or [(1, 4)]), rule.mirrored()]
            for row in near_begins(prime):
                for place, drift in ((0, 0), (row[-1][0], 1), (row[0][0] - 2, -1)):
                    for other in others:
                        self.check_parting(View(rule, row, place, drift), View(other, row, place, drift))

    def test_the_same_but_for_a_cell(self):
        for prime, terms in RULES:
            rule = Rule(prime, terms)
            for row in near_begins(prime):
                for place, drift in ((row[0][0] + 1, 0), (10, 1), (-20, 4)):
                    view = View(rule, row, place, drift)
                    for cell in (row[0][0] - 1 if row[0][0] > -20 else -19, row[0][0], row[-1][0] - 1):
                        self.check_parting(view, View(rule, added(prime, row, [(cell, 1)]), place, drift))

    def test_the_row_of_zeros(self):
        for prime, terms in RULES:
            rule = Rule(prime, terms)
            zeros = View(rule, [], 3, 1)
            self.check_parting(zeros, View(rule, [], -20, -4))
            for row in near_begins(prime):
                for place, drift in ((0, 0), (row[0][0] - 1, -4), (row[-1][0], terms[-1][1])):
                    self.check_parting(zeros, View(rule, row, place, drift))

    def test_far_rows(self):
        # The column of a power of 2 is 0 up to the row with its number, and so is a column that is never reached.
        pairs = Rule(*PAIRS)
        for exponent in (4, 5):
            told = self.check_parting(View(pairs, [(-20, 1)], 2 ** exponent - 20, 0), View(pairs, [(-20, 1)], -21, 0))
            self.assertEqual(told, 2 ** exponent)
        # Cells that come from far away, slowly.
        narrow = Rule(3, [(1, -4), (1, -3)])
        self.assertEqual(self.check_parting(View(narrow, [(20, 1)], -20, -3), View(narrow, [(20, 2)], -20, -3), 60), 40)
        self.assertIsNone(self.check_parting(View(narrow, [(20, 1)], -20, -4), View(narrow, [(20, 2)], -20, -4), 60))

    def test_late_rows(self):
        # Modulo 3, the column 8 of this rule is that of a watcher of zeros up to row 8, and again from row 9 to 16.
        rule = Rule(3, [(1, 0), (1, 1)])
        column = View(rule, [(0, 1)], 8, 0)
        self.assertEqual(self.check_parting(column, View(rule, [], 0, 0)), 8)
        shifted = View(rule, [(-9, 1)], 17, 0)
        self.check_parting(column, shifted, 100)

    def test_by_position_and_by_name(self):
        view, other_view = views_of(3, 2)
        self.assertEqual(parting(other_view=other_view, view=view), parting(view, other_view))
        self.assertEqual(are_alike(other_view=other_view, view=view), are_alike(view, other_view))

    def test_kinds_of_what_is_told(self):
        view, other_view = View(Rule(*PAIRS), [(0, 1)], 0, 0), View(Rule(*PAIRS), [(0, 1)], 1, 0)
        self.assertIs(type(parting(view, other_view)), int)
        self.assertIs(are_alike(view, other_view), False)
        self.assertIs(are_alike(view, view), True)

    def test_pairs_asked_again_behind_others(self):
        views = views_of(5, 8)
        first = [[parting(view, other_view) for other_view in views] for view in views]
        again = [[parting(view, other_view) for view in reversed(views)] for other_view in reversed(views)]
        self.assertEqual(again, [line[::-1] for line in first[::-1]])
        for at, view in enumerate(views):
            self.assertIsNone(first[at][at])
            view.all_seen()
        self.assertEqual([[parting(view, other_view) for other_view in views] for view in views], first)


class NarrowRulesTest(PartingTestCase):

    def test_all_of_few_narrow_watchers(self):
        for prime in (2, 3, 5):
            rules = [Rule(prime, [(1, 0), (coefficient, 1)]) for coefficient in range(1, prime)]
            views = [View(rule, row, place, drift) for rule in rules[:2] for row in ([(0, 1)], [(0, 1), (1, prime - 1)])
                     for place in (0, 1, 2) for drift in (0, 1)]
            for at, view in enumerate(views):
                for other_view in views[at + 1:]:
                    self.check_parting(view, other_view, 130)


class NeverPartingTest(PartingTestCase):

    def test_the_same_moved_and_turned_about(self):
        for prime, terms in RULES:
            rule = Rule(prime, terms)
            for row in near_begins(prime):
                for place, drift in ((0, 0), (row[0][0], 2), (row[-1][0] - 1, -4)):
                    view = View(rule, row, place, drift)
                    self.assertTrue(are_alike(view, view))
                    self.assertTrue(are_alike(view, View(rule, moved(row, 3), place + 3, drift)))
                    self.assertTrue(are_alike(view, View(rule.mirrored(), turned(row), -place, -drift)))
                    for by in (-1, 1):
                        if all(-4 <= offset + by <= 4 for _, offset in terms) and -4 <= drift + by <= 4:
                            other = Rule(prime, [(coefficient, offset + by) for coefficient, offset in terms])
                            self.assertTrue(are_alike(view, View(other, row, place, drift + by)))

    def test_cells_that_are_never_seen(self):
        for prime, terms in RULES:
            rule = Rule(prime, terms)
            least, greatest = terms[0][1], terms[-1][1]
            for row in near_begins(prime)[:2]:
                view = View(rule, row, row[0][0], least)
                self.assertTrue(are_alike(view, View(rule, row + [(5, 1)], row[0][0], least)))
                view = View(rule, row, row[-1][0], greatest)
                self.assertTrue(are_alike(view, View(rule, [(-7, 1)] + row, row[-1][0], greatest)))

    def test_watchers_of_the_ends(self):
        for prime, terms in RULES:
            rule = Rule(prime, terms)
            one_term = Rule(prime, [terms[0]])
            other = Rule(prime, [(terms[0][0], 3)])
            for row in near_begins(prime):
                first = View(rule, row, row[0][0], terms[0][1])
                self.assertTrue(are_alike(first, View(one_term, row[:1], row[0][0], terms[0][1])))
                self.assertTrue(are_alike(first, View(other, [(-9, row[0][1])], -9, 3)))
                last = View(rule, row, row[-1][0], terms[-1][1])
                self.assertTrue(are_alike(last, View(Rule(prime, terms[-1:]), row[-1:], row[-1][0], terms[-1][1])))
                self.assertTrue(are_alike(View(rule, row, row[0][0] - 1, terms[0][1]), View(rule, [], 0, 0)))

    def test_the_middle_of_three_neighbours(self):
        # Modulo 2 it is always 1, as the powers of x + 1 + 1/x are the same the other way about.
        middle = View(Rule(*THREE), [(0, 1)], 0, 0)
        self.assertIsNone(self.check_parting(middle, View(Rule(*PAIRS), [(0, 1)], 0, 0)))
        self.assertIsNone(self.check_parting(middle, View(Rule(2, [(1, 0)]), [(9, 1)], 9, 0)))
        self.assertEqual(self.check_parting(middle, View(Rule(*THREE), [(0, 1)], 1, 0)), 0)

    def test_another_value_parts_at_once(self):
        for prime, terms in RULES[5:]:
            rule, row = Rule(prime, terms), near_begins(prime)[2]
            for at, (coefficient, offset) in ((0, terms[0]), (-1, terms[-1])):
                view = View(rule, row, row[at][0], offset)
                changed = list(row)
                changed[at] = (row[at][0], row[at][1] % (prime - 1) + 1)
                self.assertEqual(self.check_parting(view, View(rule, changed, row[at][0], offset)), 0)
                others = list(terms)
                others[at] = (coefficient % (prime - 1) + 1, offset)
                self.assertEqual(self.check_parting(view, View(Rule(prime, others), row, row[at][0], offset)), 1)


class PartingErrorsTest(unittest.TestCase):

    def test_unlike_primes(self):
        views = {prime: views_of(prime, 3) for prime in (2, 3, 5)}
        for prime in views:
            for other_prime in views:
                for view in views[prime]:
                    for other_view in views[other_prime]:
                        expected = None if prime == other_prime else (UnlikePrimes, (prime, other_prime))
                        self.assertEqual(raised(parting, view, other_view), expected)
                        self.assertEqual(raised(are_alike, view, other_view), expected)
                        self.assertEqual(raised(parting, other_view=other_view, view=view), expected)

    def test_the_watchers_stay(self):
        view, other_view = views_of(2, 4)[3], views_of(3, 4)[3]
        kept = [(one.rule, one.row, one.place, one.drift, walked(one, 10)) for one in (view, other_view)]
        raised(parting, view, other_view)
        parting(view, views_of(2, 4)[2])
        are_alike(other_view, other_view)
        for one, (rule, row, place, drift, seen) in zip((view, other_view), kept):
            self.assertEqual((one.rule, one.row, one.place, one.drift), (rule, row, place, drift))
            self.assertEqual([one.seen(number) for number in range(11)], seen)


class ThreeWatchersTest(unittest.TestCase):

    def test_the_least_row_is_that_of_two_pairs_at_least(self):
        for prime in (2, 3, 5):
            views = views_of(prime, 24)
            for first, second, third in zip(views, views[1:], views[4:]):
                told = [parting(first, second), parting(second, third), parting(first, third)]
                least = min([number for number in told if number is not None], default=None)
                if least is not None:
                    self.assertGreaterEqual(told.count(least), 2)
                    values = [view.seen(least) for view in (first, second, third)]
                    self.assertGreater(len(set(values)), 1)
                    for number in range(least):
                        self.assertEqual(len({view.seen(number) for view in (first, second, third)}), 1)
                for view in (first, second, third):
                    self.assertIsNone(parting(view, view))

    def test_begins_times_a_value(self):
        for prime in (3, 5):
            views = views_of(prime, 20)
            for view, other_view in zip(views, views[3:]):
                told = parting(view, other_view)
                for factor in range(2, prime):
                    one, other = [View(each.rule, times(prime, each.row, factor), each.place, each.drift)
                                  for each in (view, other_view)]
                    self.assertEqual(parting(one, other), told)


if __name__ == "__main__":
    unittest.main()
