"""Promises 2 to 5: rules, the Rule check, steps, and when two rules are alike."""

import itertools
import unittest

from grownrows.errors import InvalidPrime, InvalidRow, InvalidTerm, UnlikePrimes
from grownrows.rules import Rule, alike_behind
from samples import FAR, PAIRS, SAMPLES, added, begins, plain_rows, raised, row_of, rules


class RulesTest(unittest.TestCase):

    def test_prime_and_terms(self):
        rule = Rule(3, [(2, 1), (1, -1), (1, 0)])
        self.assertEqual(rule.prime, 3)
        self.assertEqual(rule.terms, [(1, -1), (1, 0), (2, 1)])

    def test_terms_ascend_by_offsets_in_whatever_order_they_are_passed(self):
        terms = [(4, -8), (1, -7), (3, 0), (2, 8)]
        for passed in itertools.permutations(terms):
            self.assertEqual(Rule(5, list(passed)).terms, terms)

    def test_kinds_of_what_is_told(self):
        rule = Rule(2, [(1, 1), (1, 0)])
        self.assertIs(type(rule.prime), int)
        self.assertIs(type(rule.terms), list)
        self.assertEqual({type(term) for term in rule.terms}, {tuple})

    def test_by_position_and_by_name(self):
        rule = Rule(5, [(1, 0), (4, 2)])
        self.assertEqual(rule, Rule(prime=5, terms=[(1, 0), (4, 2)]))
        self.assertEqual(rule, Rule(terms=[(4, 2), (1, 0)], prime=5))
        self.assertEqual(rule.next_row(row=[(0, 1)]), rule.next_row([(0, 1)]))
        self.assertEqual(alike_behind(other_rule=Rule(5, [(2, 0), (3, 2)]), rule=rule), 4)

    def test_equality(self):
        for number, one in enumerate(rules()):
            for other_number, other in enumerate(rules()):
                with self.subTest(number=number, other_number=other_number):
                    self.assertIs(one == other, number == other_number)
                    self.assertIs(one != other, number != other_number)

    def test_rules_that_differ_a_little_are_not_equal(self):
        rule = Rule(3, [(1, 0), (1, 1)])
        self.assertEqual(rule, Rule(3, [(1, 1), (1, 0)]))
        others = [
            Rule(5, [(1, 0), (1, 1)]), Rule(2, [(1, 0), (1, 1)]), Rule(3, [(1, 0), (2, 1)]), Rule(3, [(2, 0), (2, 1)]),
            Rule(3, [(1, 0), (1, 2)]), Rule(3, [(1, 0)]), Rule(3, [(1, 0), (1, 1), (1, 2)]), Rule(3, [(1, -1), (1, 0)]),
        ]
        for other in others:
            self.assertFalse(rule == other)
            self.assertTrue(rule != other)

    def test_a_rule_is_not_equal_to_anything_else(self):

        class Agrees:
            def __eq__(self, other):
                return True

        rule = Rule(*PAIRS)
        for other in (None, 2, "2: 1@0 1@1", PAIRS, list(PAIRS), [(1, 0), (1, 1)], object(), Rule, Agrees()):
            self.assertIs(rule == other, False)
            self.assertIs(rule != other, True)

    def test_the_passed_list_may_be_changed(self):
        terms = [(1, 1), (1, 0)]
        rule = Rule(2, terms)
        self.assertEqual(terms, [(1, 1), (1, 0)])
        terms.append((1, 2))
        terms[0] = (1, 5)
        self.assertEqual(rule.terms, [(1, 0), (1, 1)])
        terms.clear()
        self.assertEqual(rule, Rule(*PAIRS))
        self.assertEqual(rule.next_row([(0, 1)]), [(0, 1), (1, 1)])

    def test_told_lists_may_be_changed(self):
        rule = Rule(*PAIRS)
        told = rule.terms
        self.assertIsNot(told, rule.terms)
        told.clear()
        rule.terms.append((1, 7))
        self.assertEqual(rule.terms, [(1, 0), (1, 1)])
        self.assertEqual(rule, Rule(*PAIRS))
        self.assertEqual(rule.next_row([(0, 1)]), [(0, 1), (1, 1)])


class RuleCheckTest(unittest.TestCase):

    def test_wrong_primes(self):
        for prime in (-5, -3, -2, -1, 0, 1, 4, 6, 7, 9, 10, 11, 25, 10 ** 31):
            self.assertEqual(raised(Rule, prime, [(1, 0)]), (InvalidPrime, prime))
            self.assertEqual(raised(Rule, prime=prime, terms=[(1, 0)]), (InvalidPrime, prime))

    def test_right_primes(self):
        for prime in (2, 3, 5):
            self.assertEqual(Rule(prime, [(1, 0)]).prime, prime)

    def test_no_terms(self):
        for prime in (2, 3, 5):
            self.assertEqual(raised(Rule, prime, []), (InvalidTerm, None))

    def test_wrong_coefficients(self):
        for prime in (2, 3, 5):
            for coefficient in (-prime, -1, 0, prime, prime + 1, 10 ** 31):
                self.assertEqual(raised(Rule, prime, [(coefficient, 0)]), (InvalidTerm, 0))
                self.assertEqual(raised(Rule, prime, [(1, 0), (1, 1), (coefficient, 2)]), (InvalidTerm, 2))
            for coefficient in range(1, prime):
                self.assertEqual(Rule(prime, [(coefficient, 0)]).terms, [(coefficient, 0)])

    def test_offsets_of_earlier_terms(self):
        self.assertEqual(raised(Rule, 2, [(1, 0), (1, 0)]), (InvalidTerm, 1))
        self.assertEqual(raised(Rule, 3, [(1, 1), (1, 0), (2, 1)]), (InvalidTerm, 2))
        self.assertEqual(raised(Rule, 5, [(1, 8), (1, 7), (2, 6), (1, 7), (1, 8)]), (InvalidTerm, 3))

    def test_the_first_of_several_errors(self):
        self.assertEqual(raised(Rule, 4, []), (InvalidPrime, 4))
        self.assertEqual(raised(Rule, 4, [(0, 0)]), (InvalidPrime, 4))
        self.assertEqual(raised(Rule, 7, [(1, 0), (1, 0)]), (InvalidPrime, 7))
        self.assertEqual(raised(Rule, 3, [(1, 0), (3, 1), (1, 0)]), (InvalidTerm, 1))
        self.assertEqual(raised(Rule, 3, [(1, 0), (1, 0), (3, 1)]), (InvalidTerm, 1))
        self.assertEqual(raised(Rule, 3, [(0, 0), (3, 0)]), (InvalidTerm, 0))
        # Terms are numbered as they are passed, not as they are told.
        self.assertEqual(raised(Rule, 3, [(1, 2), (1, 1), (0, 0)]), (InvalidTerm, 2))

    def test_the_passed_list_stays(self):
        for terms in ([(1, 2), (0, 1)], [(1, 2), (1, 0), (1, 2)], [(2, 2), (1, 0)], []):
            kept = list(terms)
            raised(Rule, 3, terms)
            self.assertEqual(terms, kept)


class StepTest(unittest.TestCase):

    def test_near_and_far_rows(self):
        for rule, (prime, terms) in zip(rules(), SAMPLES):
            for middle in (0, 5, -FAR + 20, FAR - 20):
                for row in begins(prime, middle):
                    with self.subTest(terms=terms, row=row):
                        self.assertEqual(rule.next_row(row), row_of(plain_rows(prime, terms, row, 1)[1]))

    def test_what_cells_give_is_counted_by_the_prime(self):
        self.assertEqual(Rule(2, [(1, 0), (1, 1)]).next_row([(0, 1), (1, 1)]), [(0, 1), (2, 1)])
        self.assertEqual(Rule(3, [(1, 0), (2, 1)]).next_row([(0, 1), (1, 1)]), [(0, 1), (2, 2)])
        self.assertEqual(Rule(5, [(3, 2)]).next_row([(0, 4), (9, 2)]), [(2, 2), (11, 1)])
        self.assertEqual(Rule(5, [(4, -1), (1, 0)]).next_row([(0, 1), (1, 2), (2, 3)]),
                         [(-1, 4), (0, 4), (1, 4), (2, 3)])

    def test_the_row_of_zeros(self):
        for rule in rules():
            self.assertEqual(rule.next_row([]), [])

    def test_told_rows_are_rows(self):
        for rule in rules():
            for row in begins(rule.prime):
                told = rule.next_row(row)
                self.assertIs(type(told), list)
                self.assertEqual({type(cell) for cell in told}, {tuple})
                self.assertEqual(told, sorted(told))
                self.assertIsNone(raised(rule.next_row, told))

    def test_a_step_is_linear(self):
        for rule in rules():
            for row, other_row in itertools.combinations(begins(rule.prime), 2):
                both = added(rule.prime, row, other_row)
                self.assertEqual(rule.next_row(both), added(rule.prime, rule.next_row(row), rule.next_row(other_row)))

    def test_rows_stay_and_told_rows_are_new(self):
        for rule in (Rule(*PAIRS), Rule(2, [(1, 0)]), Rule(5, [(1, 0)])):
            for row in ([], [(0, 1)], [(0, 1), (1, 1), (5, 1)]):
                kept = list(row)
                told = rule.next_row(row)
                again = list(told)
                self.assertEqual(row, kept)
                self.assertIsNot(told, row)
                told.append((99, 1))
                self.assertEqual(row, kept)
                self.assertEqual(rule.next_row(row), again)

    def test_row_check(self):
        rule = Rule(3, [(1, 0), (1, 1)])
        wrong = [
            ([(0, 0)], 0), ([(0, 3)], 0), ([(0, -1)], 0), ([(0, 1), (1, 4)], 1), ([(0, 1), (0, 1)], 1),
            ([(0, 1), (-1, 1)], 1), ([(0, 1), (2, 1), (1, 1)], 2), ([(0, 1), (2, 1), (2, 0)], 2),
            ([(5, 1), (4, 1), (3, 0)], 1), ([(5, 0), (4, 1)], 0), ([(FAR, 2), (FAR, 2)], 1),
        ]
        for row, number in wrong:
            kept = list(row)
            with self.subTest(row=row):
                self.assertEqual(raised(rule.next_row, row), (InvalidRow, number))
                self.assertEqual(raised(rule.next_row, row=row), (InvalidRow, number))
                self.assertEqual(row, kept)
        self.assertEqual(rule, Rule(3, [(1, 0), (1, 1)]))

    def test_row_check_goes_by_the_prime(self):
        for prime in (2, 3, 5):
            rule = Rule(prime, [(1, 0)])
            for value in range(1, prime):
                self.assertEqual(rule.next_row([(0, value)]), [(0, value)])
            for value in (-1, 0, prime, prime + 1):
                self.assertEqual(raised(rule.next_row, [(-1, 1), (0, value)]), (InvalidRow, 1))

    def test_mirrored(self):
        for rule, (prime, terms) in zip(rules(), SAMPLES):
            mirrored = rule.mirrored()
            with self.subTest(terms=terms):
                self.assertIs(type(mirrored), Rule)
                self.assertEqual(mirrored.prime, prime)
                expected = sorted([(coefficient, -offset) for coefficient, offset in terms], key=lambda term: term[1])
                self.assertEqual(mirrored.terms, expected)
                self.assertEqual(mirrored.mirrored(), rule)
                self.assertEqual(rule, Rule(prime, terms))

    def test_a_mirrored_rule_grows_mirrored_rows(self):
        for rule in rules():
            for row in begins(rule.prime):
                turned = [(-place, value) for place, value in reversed(row)]
                grown = [(-place, value) for place, value in reversed(rule.next_row(row))]
                self.assertEqual(rule.mirrored().next_row(turned), grown)


class AlikeTest(unittest.TestCase):

    def test_equal_rules_are_alike_behind_one_step(self):
        for rule, (prime, terms) in zip(rules(), SAMPLES):
            self.assertEqual(alike_behind(rule, rule), 1)
            self.assertEqual(alike_behind(rule, Rule(prime, terms[::-1])), 1)

    def test_factors(self):
        self.assertEqual(alike_behind(Rule(3, [(1, 0), (1, 1)]), Rule(3, [(2, 0), (2, 1)])), 2)
        # The powers of 2 and of 3 modulo 5 reach 1 with the fourth, those of 4 with the second.
        for factor, steps in ((1, 1), (2, 4), (3, 4), (4, 2)):
            for terms in ([(1, 0)], [(2, -1), (3, 1)], [(1, 6), (2, 7), (4, 8)]):
                other = [(coefficient * factor % 5, offset) for coefficient, offset in terms]
                self.assertEqual(alike_behind(Rule(5, terms), Rule(5, other)), steps)
                self.assertEqual(alike_behind(Rule(5, other), Rule(5, terms)), steps)

    def test_rules_that_never_become_alike(self):
        self.assertIsNone(alike_behind(Rule(2, [(1, 0)]), Rule(2, [(1, 1)])))
        self.assertIsNone(alike_behind(Rule(2, [(1, 0), (1, 1)]), Rule(2, [(1, 1), (1, 2)])))
        self.assertIsNone(alike_behind(Rule(2, [(1, 0), (1, 2)]), Rule(2, [(1, 0), (1, 1)])))
        self.assertIsNone(alike_behind(Rule(3, [(1, 0), (1, 1)]), Rule(3, [(1, 0), (2, 1)])))
        self.assertIsNone(alike_behind(Rule(3, [(1, 0), (1, 1)]), Rule(3, [(2, 0), (2, 2)])))
        self.assertIsNone(alike_behind(Rule(5, [(1, 0), (1, 1)]), Rule(5, [(2, 0), (3, 1)])))
        self.assertIsNone(alike_behind(Rule(5, [(1, 0), (1, 1)]), Rule(5, [(2, 0), (2, 1), (1, 2)])))
        self.assertIsNone(alike_behind(Rule(5, [(1, 0)]), Rule(5, [(1, 0), (1, 1)])))

    def test_every_pair_of_small_rules(self):
        for prime, least, greatest in ((2, -1, 2), (3, 0, 2), (5, 0, 1)):
            small = list(small_rules(prime, least, greatest))
            for terms, other in itertools.product(small, repeat=2):
                with self.subTest(prime=prime, terms=terms, other=other):
                    told = alike_behind(Rule(prime, terms), Rule(prime, other))
                    self.assertEqual(told, plainly_alike(prime, terms, other))

    def test_unlike_primes(self):
        self.assertEqual(raised(alike_behind, Rule(2, [(1, 0)]), Rule(3, [(1, 0)])), (UnlikePrimes, (2, 3)))
        self.assertEqual(raised(alike_behind, Rule(3, [(1, 0)]), Rule(2, [(1, 0)])), (UnlikePrimes, (3, 2)))
        self.assertEqual(raised(alike_behind, Rule(5, [(1, 0)]), Rule(2, [(1, 3)])), (UnlikePrimes, (5, 2)))
        self.assertEqual(raised(alike_behind, rule=Rule(3, [(2, 0)]), other_rule=Rule(5, [(2, 0)])),
                         (UnlikePrimes, (3, 5)))
        self.assertEqual(raised(alike_behind, other_rule=Rule(3, [(2, 0)]), rule=Rule(5, [(2, 0)])),
                         (UnlikePrimes, (5, 3)))


def small_rules(prime, least, greatest):
    """Yield the terms of all rules with offsets from least to greatest."""
    for coefficients in itertools.product(range(prime), repeat=greatest - least + 1):
        terms = [(coefficient, least + at) for at, coefficient in enumerate(coefficients) if coefficient]
        if terms:
            yield terms


def plainly_alike(prime, terms, other):
    """Return the first of 12 steps behind which a single cell has become the same by both rules, else None."""
    rows = plain_rows(prime, terms, [(0, 1)], 12)
    other_rows = plain_rows(prime, other, [(0, 1)], 12)
    return next((steps for steps in range(1, 13) if rows[steps] == other_rows[steps]), None)


if __name__ == "__main__":
    unittest.main()
