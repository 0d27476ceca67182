"""Promises 57 to 60: fields, call by call and far away, their errors, and equal fields."""

import unittest

from grownrows.errors import InvalidNumber, InvalidRow, InvalidValue, NothingToUndo, TooFar, UnlikePrimes
from grownrows.fields import Field, ShortField
from grownrows.rows import cell_at, cells_between, ends_of
from grownrows.rules import Rule
from samples import (FAR, FARTHEST, PAIRS, POWERS, SAMPLES, added, begins, far_numbers, plain_rows, raised, row_of,
                     rules, spread)
from test_rows import WRONG_ROWS

# Rules of each prime that take turns in a field, all of the greatest width.
TURNS = {
    2: [[(1, -2), (1, -1), (1, 2)], [(1, 4), (1, 5), (1, 6), (1, 7), (1, 8)], [(1, 0), (1, 4)], [(1, -8)]],
    3: [[(2, -1), (1, 0), (1, 2)], [(1, -8), (2, -5)], [(1, 5), (2, 6), (2, 7), (1, 8)], [(2, 0)]],
    5: [[(1, -1), (3, 0), (4, 1)], [(2, 6), (1, 8)], [(1, -8), (4, -7), (2, -6)], [(3, 1)]],
}


def turns(prime):
    """Return the rules of a prime that take turns in a field."""
    return [Rule(prime, terms) for terms in TURNS[prime]]


class Walk:
    """A second, plain field: the present row as a dict, and what there was before each call."""

    def __init__(self, rule, row):
        self.rule, self.cells, self.steps, self.story = rule, dict(row), 0, []
        self.before = []

    def keep(self, call):
        self.before.append((self.rule, dict(self.cells), self.steps))
        self.story.append(call)

    def grow(self, number):
        self.keep(("grow", number))
        self.cells = plain_rows(self.rule.prime, self.rule.terms, row_of(self.cells), number)[-1]
        self.steps += number

    def add(self, place, value):
        self.keep(("add", place, value))
        self.cells[place] = (self.cells.get(place, 0) + value) % self.rule.prime

    def turn(self, rule):
        self.keep(("turn", rule))
        self.rule = rule

    def undo(self):
        self.story.pop()
        self.rule, self.cells, self.steps = self.before.pop()


class FieldTestCase(unittest.TestCase):

    def check_field(self, field, walk):
        """Compare a field with a plain one."""
        places = [*range(-4, 5), min(walk.cells, default=0) - 1, max(walk.cells, default=0) + 1]
        places += sorted(walk.cells)[:3] + sorted(walk.cells)[-3:]
        self.assertEqual([field.value_at(place) for place in places], [walk.cells.get(place, 0) for place in places])
        self.assertEqual((field.steps, field.rule, field.story()), (walk.steps, walk.rule, walk.story))
        self.assertEqual(len(field), len(walk.story))


class ExampleTest(unittest.TestCase):

    def test_the_example_of_the_document(self):
        pairs = Rule(2, [(1, 0), (1, 1)])
        field = Field(pairs, [(0, 1)])
        self.assertIsNone(field.grow(3))
        self.assertEqual([field.value_at(place) for place in range(4)], [1, 1, 1, 1])
        self.assertIsNone(field.add(0, 1))
        self.assertIsNone(field.grow(1))
        self.assertEqual([field.value_at(place) for place in range(5)], [0, 1, 0, 0, 1])
        self.assertEqual(field.steps, 4)
        self.assertIsNone(field.undo())
        self.assertEqual(field.value_at(0), 0)
        self.assertEqual(field.story(), [("grow", 3), ("add", 0, 1)])
        self.assertEqual(len(field), 2)
        self.assertFalse(Field(pairs, [(0, 1)]) == ShortField(pairs, [(0, 1)], 9))


class CallByCallTest(FieldTestCase):

    def test_all_calls_by_turns(self):
        for prime in (2, 3, 5):
            all_rules = turns(prime)
            for row in [[]] + begins(prime)[1:4]:
                for make in (Field, lambda rule, row: ShortField(rule, row, 10 ** 6)):
                    field, walk = make(all_rules[0], row), Walk(all_rules[0], row)
                    for at in range(24):
                        for one in (field, walk):
                            if at % 4 == 0:
                                self.assertIsNone(one.grow(at % 5))
                            elif at % 4 == 1 and at < 20:
                                self.assertIsNone(one.add(7 * at % 9 - 4, 1 + at % (prime - 1)))
                            elif at % 4 == 2:
                                self.assertIsNone(one.turn(all_rules[at % 7 % 4]))
                            elif at % 8 == 7:
                                self.assertIsNone(one.undo())
                        self.check_field(field, walk)
                    while walk.story:
                        walk.undo()
                        field.undo()
                        self.check_field(field, walk)
                    self.assertEqual(field, make(all_rules[0], row))

    def test_refused_calls_change_nothing(self):
        for prime in (2, 3, 5):
            rule, other = turns(prime)[:2]
            short, walk = ShortField(rule, begins(prime)[2], 9), Walk(rule, begins(prime)[2])
            for call in (("grow", 4), ("add", 2, 1), ("turn", other), ("grow", 5), ("undo",), ("grow", 0)):
                for wrong in (lambda: short.grow(-1), lambda: short.grow(10), lambda: short.add(0, 0),
                              lambda: short.add(0, prime), lambda: short.turn(Rule(2 if prime > 2 else 3, [(1, 0)]))):
                    self.assertIsNotNone(raised(wrong))
                    self.check_field(short, walk)
                for one in (short, walk):
                    getattr(one, call[0])(*call[1:])
                self.check_field(short, walk)

    def test_undo_takes_back_the_last_call_that_is_not_taken_back(self):
        pairs, three = Rule(*PAIRS), Rule(2, [(1, -1), (1, 0), (1, 1)])
        field = Field(pairs, [(0, 1)])
        field.grow(2)
        field.turn(three)
        field.add(5, 1)
        raised(field.add, 5, 2)
        field.undo()
        self.assertEqual((field.story(), field.rule), ([("grow", 2), ("turn", three)], three))
        field.grow(1)
        raised(field.grow, -1)
        field.undo()
        field.undo()
        self.assertEqual((field.story(), field.rule, field.steps), ([("grow", 2)], pairs, 2))
        field.undo()
        self.assertEqual((field.story(), len(field), field.steps), ([], 0, 0))
        self.assertEqual(raised(field.undo), (NothingToUndo, 0))
        self.assertEqual([field.value_at(place) for place in (-1, 0, 1)], [0, 1, 0])

    def test_added_values_that_come_to_0(self):
        for prime in (2, 3, 5):
            field = Field(turns(prime)[0], [(4, 1)])
            field.add(4, prime - 1)
            for number in (0, 1, 7, FAR):
                field.grow(number)
                self.assertEqual([field.value_at(place) for place in range(-10, 20)], [0] * 30)
            for _ in range(prime):
                field.add(0, 1)
            self.assertEqual(field.value_at(0), 0)

    def test_lists_may_be_changed(self):
        rule, row = turns(3)[0], [(0, 1), (2, 2)]
        field = Field(rule, row)
        field.grow(2)
        told = [field.value_at(place) for place in range(-5, 8)]
        row.append((9, 1))
        row[0] = (-5, 2)
        story = field.story()
        story.append(("grow", 9))
        story[0] = ("grow", 1)
        field.story().clear()
        self.assertEqual([field.value_at(place) for place in range(-5, 8)], told)
        self.assertEqual((field.story(), len(field)), ([("grow", 2)], 1))
        self.assertEqual(field, self.grown(rule, [(0, 1), (2, 2)], 2))

    def grown(self, rule, row, number):
        field = Field(rule, row)
        field.grow(number)
        return field

    def test_passed_rows_stay(self):
        row = begins(5)[2]
        kept = list(row)
        field = ShortField(turns(5)[0], row, 40)
        field.add(0, 1)
        field.grow(40)
        field.value_at(0)
        field.undo()
        self.assertEqual(row, kept)

    def test_by_position_and_by_name(self):
        rule, other, row = *turns(5)[:2], [(0, 1), (3, 2)]
        field, named = ShortField(rule, row, 50), ShortField(most=50, row=row, rule=rule)
        plain = Field(row=row, rule=rule)
        field.grow(7)
        field.add(2, 4)
        field.turn(other)
        for one in (named, plain):
            one.grow(number=7)
            one.add(value=4, place=2)
            one.turn(rule=other)
        self.assertEqual(named, field)
        self.assertEqual([named.value_at(place=place) for place in range(-9, 9)],
                         [field.value_at(place) for place in range(-9, 9)])
        self.assertEqual(plain.story(), field.story())


class FarFieldsTest(unittest.TestCase):

    def test_each_cell_is_the_sum_of_what_grew(self):
        for rule in rules():
            prime, row = rule.prime, begins(rule.prime)[2]
            field = Field(rule, row)
            number, later, last = far_numbers(prime)[3], 10 ** 29, prime ** 20
            field.grow(number)
            first, end = ends_of(rule, row, number)
            field.add(end - 3, 1)
            field.grow(later)
            field.add(first, prime - 1)
            field.grow(last)
            for low in (ends_of(rule, row, number + later + last)[0], end - 3 + (later + last) * rule.terms[-1][1] - 4,
                        first + last * rule.terms[0][1], 0):
                cells = [cells_between(rule, one, steps, low, low + 8)
                         for one, steps in ((row, number + later + last), ([(end - 3, 1)], later + last),
                                            ([(first, prime - 1)], last))]
                self.assertEqual([field.value_at(low + at) for at in range(9)],
                                 [sum(values) % prime for values in zip(*cells)])

    def test_far_steps_one_after_another(self):
        for rule in rules():
            row = begins(rule.prime)[3]
            for numbers in ((FAR, 1, FAR), (POWERS[rule.prime], POWERS[rule.prime] - 1), (5, FARTHEST)):
                field = Field(rule, row)
                for number in numbers:
                    field.grow(number)
                first, last = ends_of(rule, row, sum(numbers))
                self.assertEqual(field.steps, sum(numbers))
                for low in (first - 3, last - 6, (first + last) // 2):
                    self.assertEqual([field.value_at(low + at) for at in range(10)],
                                     cells_between(rule, row, sum(numbers), low, low + 9))

    def test_a_begin_that_is_added_cell_by_cell(self):
        for rule in rules():
            row = [(5 * at - 20, 1 + at % (rule.prime - 1)) for at in range(8)]
            for number in (0, 9, FAR):
                field = Field(rule, [])
                for place, value in row:
                    field.add(place, value)
                field.grow(number)
                for low in (ends_of(rule, row, number)[0], ends_of(rule, row, number)[1] - 9):
                    self.assertEqual([field.value_at(low + at) for at in range(10)],
                                     cells_between(rule, row, number, low, low + 9))

    def test_a_change_to_another_rule(self):
        for prime in (2, 3, 5):
            for rule in turns(prime):
                for other in turns(prime):
                    row, power, other_power = begins(prime)[2], prime ** 20, prime ** 33
                    field = Field(rule, row)
                    field.grow(power)
                    field.turn(other)
                    field.grow(other_power)
                    middle = spread(prime, rule.terms, row, power)
                    far = spread(prime, other.terms, middle, other_power)
                    for place, value in far:
                        self.assertEqual([field.value_at(place + at) for at in (-1, 0, 1)],
                                         [dict(far).get(place + at, 0) for at in (-1, 0, 1)])
                    field.turn(rule)
                    field.grow(1)
                    further = dict(rule.next_row(far))
                    for place in list(further)[::5]:
                        self.assertEqual(field.value_at(place), further[place])

    def test_rules_in_another_sequence(self):
        for prime in (2, 3, 5):
            all_rules = turns(prime)
            row = begins(prime)[4]
            numbers = [FAR, 10 ** 29 + 7, prime ** 40, 5]
            fields = []
            for order in ((0, 1, 2, 3), (3, 1, 0, 2)):
                field = Field(all_rules[0], row)
                for at in order:
                    field.turn(all_rules[at])
                    field.grow(numbers[at])
                fields.append(field)
            first = row[0][0] + sum(number * rule.terms[0][1] for rule, number in zip(all_rules, numbers))
            told = [[field.value_at(first + at) for at in range(-9, 30)] for field in fields]
            self.assertEqual(told[0], told[1])
            self.assertEqual([value > 0 for value in told[0][:10]], [False] * 9 + [True])

    def test_cells_added_far_away(self):
        for rule in rules():
            field = Field(rule, [])
            for place in (-FAR, 0, FAR):
                field.add(place, 1)
            field.grow(3)
            for place in (-FAR, 0, FAR):
                self.assertEqual([field.value_at(place + at) for at in range(-30, 30)],
                                 cells_between(rule, [(0, 1)], 3, -30, 29))
            field.grow(FAR)
            for place in (0, FAR * rule.terms[0][1] + 3, FAR * rule.terms[-1][1]):
                self.assertEqual(field.value_at(place),
                                 sum(cell_at(rule, [(begin, 1)], FAR + 3, place) for begin in (-FAR, 0, FAR))
                                 % rule.prime)

    def test_fields_go_on_as_rows_do(self):
        for rule in rules():
            prime, row = rule.prime, begins(rule.prime)[2]
            field = Field(rule, row)
            field.grow(FAR)
            low = ends_of(rule, row, FAR)[0]
            cells = [field.value_at(low + at) for at in range(-8, 25)]
            field.grow(1)
            for at in range(8, 16):
                given = sum(coefficient * cells[at + 8 - (offset - rule.terms[0][1])]
                            for coefficient, offset in rule.terms)
                self.assertEqual(field.value_at(low + rule.terms[0][1] + at), given % prime)


class FieldErrorsTest(unittest.TestCase):

    def test_row_check(self):
        rule = Rule(3, [(1, 0), (2, 1)])
        for row, wrong in WRONG_ROWS:
            kept = list(row)
            self.assertEqual(raised(Field, rule, row), (InvalidRow, wrong))
            self.assertEqual(raised(ShortField, rule, row, 5), (InvalidRow, wrong))
            self.assertEqual(raised(ShortField, rule, row, -5), (InvalidRow, wrong))
            self.assertEqual(raised(ShortField, most=-1, row=row, rule=rule), (InvalidRow, wrong))
            self.assertEqual(row, kept)

    def test_limits(self):
        rule = Rule(*PAIRS)
        for most in (-1, -FARTHEST):
            self.assertEqual(raised(ShortField, rule, [], most), (InvalidNumber, most))
            self.assertEqual(raised(ShortField, rule, [(0, 1)], most), (InvalidNumber, most))
        for most in (0, 1, FARTHEST):
            self.assertIsNone(raised(ShortField, rule, [(0, 1)], most))

    def test_negative_numbers(self):
        rule = Rule(*PAIRS)
        for field in (Field(rule, [(0, 1)]), ShortField(rule, [(0, 1)], 4), ShortField(rule, [], 0)):
            for number in (-1, -FARTHEST):
                self.assertEqual(raised(field.grow, number), (InvalidNumber, number))
                self.assertEqual(raised(field.grow, number=number), (InvalidNumber, number))
            self.assertEqual(field.story(), [])

    def test_too_far(self):
        field = ShortField(Rule(*PAIRS), [(0, 1)], FAR)
        self.assertEqual(raised(field.grow, FAR + 1), (TooFar, FAR + 1))
        self.assertIsNone(raised(field.grow, FAR))
        self.assertEqual(raised(field.grow, 1), (TooFar, FAR + 1))
        self.assertIsNone(raised(field.grow, 0))
        self.assertEqual(raised(field.grow, FAR), (TooFar, 2 * FAR))
        self.assertEqual(raised(field.grow, -1), (InvalidNumber, -1))
        field.undo()
        field.undo()
        self.assertEqual(field.steps, 0)
        self.assertIsNone(raised(field.grow, FAR - 3))
        self.assertEqual(raised(field.grow, 4), (TooFar, FAR + 1))
        self.assertEqual((field.steps, field.story()), (FAR - 3, [("grow", FAR - 3)]))
        self.assertIsNone(raised(field.grow, 3))
        nothing = ShortField(Rule(*PAIRS), [(0, 1)], 0)
        self.assertEqual(raised(nothing.grow, 1), (TooFar, 1))
        self.assertIsNone(raised(nothing.grow, 0))

    def test_values(self):
        for prime in (2, 3, 5):
            field = Field(turns(prime)[0], [])
            for value in (0, -1, prime, prime + 1, FARTHEST, -FARTHEST):
                self.assertEqual(raised(field.add, 0, value), (InvalidValue, value))
                self.assertEqual(raised(field.add, value=value, place=FAR), (InvalidValue, value))
            self.assertEqual((field.story(), field.value_at(0)), ([], 0))
            for value in range(1, prime):
                self.assertIsNone(raised(field.add, -FAR, value))

    def test_unlike_primes(self):
        for prime in (2, 3, 5):
            for other_prime in (2, 3, 5):
                field = Field(turns(prime)[0], [(0, 1)])
                field.turn(turns(prime)[1])
                other = turns(other_prime)[2]
                if prime == other_prime:
                    self.assertIsNone(raised(field.turn, other))
                else:
                    self.assertEqual(raised(field.turn, other), (UnlikePrimes, (prime, other_prime)))
                    self.assertEqual(raised(field.turn, rule=other), (UnlikePrimes, (prime, other_prime)))
                    self.assertEqual((field.rule, len(field)), (turns(prime)[1], 1))

    def test_nothing_to_undo(self):
        for field in (Field(Rule(*PAIRS), [(0, 1)]), ShortField(Rule(*PAIRS), [], 3)):
            self.assertEqual(raised(field.undo), (NothingToUndo, 0))
            raised(field.grow, -1)
            self.assertEqual(raised(field.undo), (NothingToUndo, 0))
            field.grow(0)
            self.assertIsNone(raised(field.undo))
            self.assertEqual(raised(field.undo), (NothingToUndo, 0))


class EqualFieldsTest(unittest.TestCase):

    def fields(self):
        """Return fields that are all unlike, each one made anew."""
        pairs, other = Rule(*PAIRS), Rule(2, [(1, 0), (1, 2)])
        fields = [Field(pairs, [(0, 1)]), Field(other, [(0, 1)]), Field(pairs, [(1, 1)]), Field(pairs, []),
                  Field(Rule(3, [(1, 0), (1, 1)]), [(0, 1)]), ShortField(pairs, [(0, 1)], 9),
                  ShortField(pairs, [(0, 1)], 8), ShortField(other, [(0, 1)], 9)]
        for calls in ([("grow", 1)], [("grow", 2)], [("grow", 1), ("grow", 1)], [("grow", 0)], [("add", 0, 1)],
                      [("add", 1, 1)], [("turn", pairs)], [("turn", other)], [("turn", other), ("turn", pairs)]):
            for field in (Field(pairs, [(0, 1)]), ShortField(pairs, [(0, 1)], 9)):
                for call in calls:
                    getattr(field, call[0])(*call[1:])
                fields.append(field)
        return fields

    def test_just_if_all_of_it_is_equal(self):
        fields, others = self.fields(), self.fields()
        for at, field in enumerate(fields):
            self.assertEqual([field == other for other in others], [at == other for other in range(len(others))])
            self.assertEqual([field != other for other in others], [at != other for other in range(len(others))])

    def test_calls_that_are_taken_back(self):
        field, other = Field(Rule(*PAIRS), [(0, 1)]), Field(Rule(*PAIRS), [(0, 1)])
        field.grow(3)
        self.assertFalse(field == other)
        field.undo()
        self.assertTrue(field == other)
        raised(field.grow, -1)
        self.assertTrue(field == other)

    def test_two_fields_go_their_own_ways(self):
        rule, row = turns(5)[0], [(0, 1), (4, 3)]
        field, other = Field(rule, row), Field(rule, row)
        field.grow(4)
        field.add(0, 2)
        self.assertEqual((other.steps, len(other), other.value_at(0)), (0, 0, 1))
        other.turn(turns(5)[1])
        self.assertEqual(field.rule, rule)
        self.assertFalse(field == other)

    def test_a_field_is_not_equal_to_anything_else(self):
        for field in self.fields():
            for other in (field.rule, [(0, 1)], [], 0, 1, None, "", (), field.story()):
                self.assertFalse(field == other)
                self.assertFalse(other == field)
                self.assertTrue(field != other)

    def test_a_short_field_is_a_field(self):
        self.assertTrue(issubclass(ShortField, Field))
        self.assertIsInstance(ShortField(Rule(*PAIRS), [], 0), Field)
        self.assertIn("grow", vars(ShortField))
        for name in ("grow", "add", "turn", "undo", "value_at", "story", "rule", "steps"):
            self.assertIn(name, vars(Field))

    def test_all_samples_grow_as_rows(self):
        for rule, (prime, terms) in zip(rules(), SAMPLES):
            row, other_row = begins(prime)[2], [(0, 1), (1, prime - 1)]
            cells = plain_rows(prime, terms, added(prime, row, other_row), 20)[-1]
            field = Field(rule, row)
            for place, value in other_row:
                field.add(place, value)
            for _ in range(4):
                field.grow(5)
            low = min(cells) - 2
            self.assertEqual([field.value_at(place) for place in range(low, low + 40)],
                             [cells.get(place, 0) for place in range(low, low + 40)])


if __name__ == "__main__":
    unittest.main()
