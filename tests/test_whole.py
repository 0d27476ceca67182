"""Promises 19, 66, 68, 72, 73, 81 and 85: what holds over the whole program."""

import unittest

from grownrows.back import came_from, row_before, rows_back, steps_between
from grownrows.counting import count_between, count_row, nth_place, place_index
from grownrows.fields import Field
from grownrows.gaps import count_gaps, gap_at, longest_gap
from grownrows.knowing import count_begins, first_begin, looks_missing, sure_value
from grownrows.parting import parting
from grownrows.readings import read_row, read_rule, read_seen
from grownrows.rows import cell_at, cells_between, ends_of, rows_until
from grownrows.rules import Rule, alike_behind
from grownrows.sheets import count_lit, count_rows
from grownrows.texts import show_row, show_rule, show_seen
from grownrows.views import View
from samples import (FAR, POWERS, SAMPLES, added, begins, far_lows, far_numbers, plain_rows, raised, row_of, rules,
                     spread, times)


def questions(prime):
    """Return many questions to a rule, as functions of a rule, with rows, numbers, values and places by turns."""
    rows = [begins(prime)[0], begins(prime)[2], begins(prime)[3]]
    numbers = [7, FAR, 0, POWERS[prime]]
    asked = []
    for at, number in enumerate(numbers * 2):
        row, value, place = rows[at % 3], 1 + at % (prime - 1), 5 * at - 9
        asked += [lambda rule, row=row, number=number: ends_of(rule, row, number),
                  lambda rule, row=row, number=number, place=place: cells_between(rule, row, number, place, place + 9),
                  lambda rule, row=row, number=number, place=place: cell_at(rule, row, number, place),
                  lambda rule, row=row, number=number, value=value: count_row(rule, row, number, value),
                  lambda rule, row=row, number=number, value=value: count_rows(rule, row, number, value),
                  lambda rule, row=row, number=number: (count_lit(rule, row, number), longest_gap(rule, row, number)),
                  lambda rule, row=row, number=number, value=value, place=place:
                      count_between(rule, row, number, value, place - FAR, place),
                  lambda rule, row=row, number=number, value=value: raised(nth_place, rule, row, number, value, -1),
                  lambda rule, row=row, number=number, place=place: place_index(rule, row, number, place),
                  lambda rule, row=row, number=number, place=place: gap_at(rule, row, number, place),
                  lambda rule, row=row, place=place: View(rule, row, place, 1).all_seen(),
                  lambda rule, row=row, place=place, value=value: View(rule, row, place, 0).first_seen(value),
                  lambda rule, row=row, place=place, number=number: View(rule, row, place, 0).count_seen(0, number),
                  lambda rule, row=row, place=place: parting(View(rule, row, 2, 0), View(rule, row, place % 9, 1)),
                  lambda rule, row=row: (row_before(rule, row), rows_back(rule, row), came_from(rule, row, 1)),
                  lambda rule, row=row, other=rows[0]: steps_between(rule, other, row),
                  lambda rule, number=number, place=place: looks_missing(rule, 0, 9, [(number, place, 0)]),
                  lambda rule, number=number, place=place: first_begin(rule, 0, 9, [(number, place, 0), (0, 3, 1)]),
                  lambda rule, row=row: (rule.next_row(row), rows_until(rule, row, 5), show_rule(rule))]
    return asked


class OneRuleTest(unittest.TestCase):

    def test_it_answers_as_a_rule_that_is_made_anew(self):
        for prime, terms in SAMPLES:
            rule = Rule(prime, terms)
            asked = questions(prime)
            expected = [question(Rule(prime, terms)) for question in asked]
            self.assertEqual([question(rule) for question in asked], expected)
            self.assertEqual([question(rule) for question in asked[::-1]], expected[::-1])
            self.assertEqual(rule, Rule(prime, terms))
            self.assertEqual(show_rule(rule), show_rule(Rule(prime, terms)))


class SumsTest(unittest.TestCase):

    def test_the_sum_of_two_begins(self):
        for rule in rules():
            prime = rule.prime
            row, other_row = begins(prime)[2], begins(prime, 4)[3]
            both = added(prime, row, other_row)
            for number in [0, 1, 9, 40] + far_numbers(prime)[:4]:
                for low in far_lows(rule, both, number):
                    cells = [cells_between(rule, one, number, low, low + 20) for one in (row, other_row, both)]
                    self.assertEqual(cells[2], [(one + other) % prime for one, other in zip(*cells[:2])])
                    seen = [View(rule, one, low - 3 * number, 3).seen(number) for one in (row, other_row, both)]
                    self.assertEqual(seen[2], (seen[0] + seen[1]) % prime)

    def test_a_begin_times_a_number(self):
        for rule in rules():
            prime, row = rule.prime, begins(rule.prime)[2]
            for factor in range(2, prime):
                other = times(prime, row, factor)
                for number in [0, 9] + far_numbers(prime)[:3]:
                    self.assertEqual(ends_of(rule, other, number), ends_of(rule, row, number))
                    self.assertEqual(longest_gap(rule, other, number), longest_gap(rule, row, number))
                    self.assertEqual(count_gaps(rule, other, number, 1), count_gaps(rule, row, number, 1))
                    for value in range(1, prime):
                        self.assertEqual(count_row(rule, other, number, value * factor % prime),
                                         count_row(rule, row, number, value))
                    for low in far_lows(rule, row, number):
                        self.assertEqual(cells_between(rule, other, number, low, low + 20),
                                         [value * factor % prime
                                          for value in cells_between(rule, row, number, low, low + 20)])


class NextRowsTest(unittest.TestCase):

    def test_a_cell_is_what_the_cells_give_to_it(self):
        for rule in rules():
            prime, row = rule.prime, begins(rule.prime)[2]
            for number in [0, 1, 8, 31] + far_numbers(prime)[:5]:
                first, last = ends_of(rule, row, number)
                for place in (first + rule.terms[0][1], last + rule.terms[-1][1], (first + last) // 2, row[0][0]):
                    given = sum(coefficient * cell_at(rule, row, number, place - offset)
                                for coefficient, offset in rule.terms)
                    self.assertEqual(cell_at(rule, row, number + 1, place), given % prime)
                self.assertEqual(ends_of(rule, row, number + 1),
                                 (first + rule.terms[0][1], last + rule.terms[-1][1]))

    def test_what_is_counted_goes_on_as_rows_do(self):
        for rule in rules():
            prime, row = rule.prime, begins(rule.prime)[1]
            for number in (0, 8, FAR, POWERS[prime] - 1):
                for value in range(1, prime):
                    self.assertEqual(count_rows(rule, row, number + 1, value) - count_rows(rule, row, number, value),
                                     count_row(rule, row, number + 1, value))
                self.assertEqual(count_lit(rule, row, number + 1) - count_lit(rule, row, number),
                                 sum(count_row(rule, row, number + 1, value) for value in range(1, prime)))
                view = View(rule, row, 0, rule.terms[0][1])
                field = Field(rule, row)
                field.grow(number)
                place = rule.terms[0][1] * (number + 1)
                for value in range(prime):
                    more = view.count_seen(value, number + 1) - view.count_seen(value, number)
                    self.assertEqual(more, 1 if view.seen(number + 1) == value else 0)
                field.grow(1)
                self.assertEqual(field.value_at(place), view.seen(number + 1))
                self.assertEqual([field.value_at(place + at) for at in range(5)],
                                 cells_between(rule, row, number + 1, place, place + 4))


class RealBeginsTest(unittest.TestCase):

    def looks(self, rule, row, number):
        """Return tuples (number, place) of cells of a row, near its ends and its middle."""
        first, last = ends_of(rule, row, number)
        return [(number, place) for place in (first, first + 2, last - 1, (first + last) // 2)]

    def test_cells_of_a_real_begin(self):
        for rule in rules():
            prime = rule.prime
            row = [(at, value) for at, value in enumerate([1, 0, prime - 1, 1, 0, 0, 1, prime - 1, 0, 1]) if value]
            values = [dict(row).get(at, 0) for at in range(10)]
            seen_cells = []
            for number in (3, FAR, POWERS[prime], 1, 10 ** 6, 0):
                for place in [place for _, place in self.looks(rule, row, number)][:3]:
                    count = count_begins(rule, 0, 9, seen_cells)
                    value = cell_at(rule, row, number, place)
                    sure = sure_value(rule, 0, 9, seen_cells, number, place)
                    self.assertGreater(count, 0)
                    more = seen_cells + [(number, place, value)]
                    wrong = seen_cells + [(number, place, (value + 1) % prime)]
                    if sure is None:
                        self.assertEqual(count_begins(rule, 0, 9, more) * prime, count)
                        self.assertEqual(count_begins(rule, 0, 9, wrong) * prime, count)
                    else:
                        self.assertEqual(sure, value)
                        self.assertEqual(count_begins(rule, 0, 9, more), count)
                        self.assertEqual(count_begins(rule, 0, 9, wrong), 0)
                    seen_cells = more
                    first = first_begin(rule, 0, 9, seen_cells)
                    grown = [(at, one) for at, one in enumerate(first) if one]
                    self.assertEqual([cell_at(rule, grown, *cell[:2]) for cell in seen_cells],
                                     [cell[2] for cell in seen_cells])
                    self.assertLessEqual(first, values)
                    if count_begins(rule, 0, 9, seen_cells) == 1:
                        self.assertEqual(first, values)

    def test_unknown_begins_and_cells_that_watchers_see(self):
        for rule in rules():
            prime = rule.prime
            row = row_of({at: (at * at + 1) % prime for at in range(8)})
            values = [dict(row).get(at, 0) for at in range(8)]
            views = [View(rule, row, place, drift) for place in (0, 3, 7) for drift in (0, rule.terms[0][1])]
            seen_cells = []
            for view, number in zip(views * 3, [0, 4, FAR, 1, POWERS[prime], 0] * 3):
                seen_cells.append((number, view.place + view.drift * number, view.seen(number)))
                self.assertEqual(count_begins(rule, 0, 7, seen_cells + [(0, at, values[at]) for at in range(8)]), 1)
                for other in views:
                    for other_number in (0, 2, FAR):
                        sure = sure_value(rule, 0, 7, seen_cells, other_number,
                                          other.place + other.drift * other_number)
                        self.assertIn(sure, (None, other.seen(other_number)))
                if looks_missing(rule, 0, 7, seen_cells) == 0:
                    self.assertEqual(first_begin(rule, 0, 7, seen_cells), values)

    def test_far_cells_seen(self):
        for rule in rules():
            prime = rule.prime
            row = row_of({-5 + at: (at * 3 + 1) % prime for at in range(12)})
            values = [dict(row).get(at, 0) for at in range(-5, 7)]
            for number in (FAR, POWERS[prime] + 1, 6):
                low = ends_of(rule, row, number)[0] + 1
                cells = cells_between(rule, row, number, low, low + 7)
                seen_cells = [(number, low + at, value) for at, value in enumerate(cells)]
                self.assertGreater(count_begins(rule, -5, 6, seen_cells), 0)
                first = first_begin(rule, -5, 6, seen_cells)
                self.assertLessEqual(first, values)
                grown = [(at - 5, value) for at, value in enumerate(first) if value]
                self.assertEqual(cells_between(rule, grown, number, low, low + 7), cells)
                for place in (low - 1, low + 3, low + 8):
                    self.assertIn(sure_value(rule, -5, 6, seen_cells, number, place),
                                  (None, cell_at(rule, row, number, place)))
                counts = []
                for at, value in enumerate(values):
                    seen_cells.append((0, at - 5, value))
                    counts.append(count_begins(rule, -5, 6, seen_cells[:20]))
                self.assertEqual(counts, sorted(counts, reverse=True))
                self.assertEqual(counts[-1], 1)
                self.assertEqual(first_begin(rule, -5, 6, seen_cells[:20]), values)


class RulesTogetherTest(unittest.TestCase):

    def test_rules_that_are_alike_behind_some_steps(self):
        for prime, terms in SAMPLES:
            rule = Rule(prime, terms)
            for factor in range(1, prime):
                other = Rule(prime, [(coefficient * factor % prime, offset) for coefficient, offset in terms])
                steps = alike_behind(rule, other)
                self.assertIsNotNone(steps)
                for row in begins(prime):
                    for number in range(1, 9):
                        same = rows_until(rule, row, number)[-1] == rows_until(other, row, number)[-1]
                        self.assertEqual(same, number % steps == 0)
                    for number in (steps * (10 ** 29 + 7), steps * prime ** 30):
                        low = ends_of(rule, row, number)[0]
                        self.assertEqual(cells_between(rule, row, number, low, low + 40),
                                         cells_between(other, row, number, low, low + 40))
                        if steps > 1:
                            self.assertNotEqual(cell_at(rule, row, number + 1, low + terms_least(rule)),
                                                cell_at(other, row, number + 1, low + terms_least(rule)))

    def test_equal_rules_tell_the_same_of_far_rows(self):
        for prime, terms in SAMPLES:
            rule, other = Rule(prime, terms), Rule(prime, terms[::-1])
            self.assertEqual(rule, other)
            self.assertEqual(alike_behind(rule, other), 1)
            row = begins(prime)[2]
            for number in far_numbers(prime)[:4]:
                for low in far_lows(rule, row, number):
                    self.assertEqual(cells_between(rule, row, number, low, low + 20),
                                     cells_between(other, row, number, low, low + 20))

    def test_texts_give_the_same_far_cells(self):
        for rule in rules():
            for row in begins(rule.prime, -7):
                other, other_row = read_rule(show_rule(rule)), read_row(show_row(row))
                self.assertEqual((other, other_row), (rule, row))
                for number in far_numbers(rule.prime)[:3]:
                    for low in far_lows(rule, row, number):
                        self.assertEqual(cells_between(other, other_row, number, low, low + 20),
                                         cells_between(rule, row, number, low, low + 20))
                seen_cells = [(FAR, place, cell_at(rule, row, FAR, place)) for place in far_lows(rule, row, FAR)]
                self.assertEqual(read_seen(show_seen(seen_cells)), seen_cells)
                self.assertEqual(first_begin(other, -40, -20, read_seen(show_seen(seen_cells))),
                                 first_begin(rule, -40, -20, seen_cells))


def terms_least(rule):
    """Return the least offset of a rule."""
    return rule.terms[0][1]


class FieldsTogetherTest(unittest.TestCase):

    def test_a_field_has_the_rows_of_its_rules(self):
        for rule, (prime, terms) in zip(rules(), SAMPLES):
            row = begins(prime)[2]
            field = Field(rule, row)
            field.grow(prime ** 3)
            middle = row_of(plain_rows(prime, terms, row, prime ** 3)[-1]) if prime < 5 else None
            if middle is not None:
                self.assertEqual(middle, spread(prime, terms, row, prime ** 3))
                self.assertEqual([field.value_at(place) for place, _ in middle], [value for _, value in middle])
                if len(terms) > 1:
                    self.assertEqual(steps_between(rule, row, middle), field.steps)


if __name__ == "__main__":
    unittest.main()
