"""Promises 61 to 63: texts of rules, rows and seen cells, and what is read from texts."""

import unittest
from itertools import permutations

from grownrows.errors import Unreadable
from grownrows.readings import read_row, read_rule, read_seen
from grownrows.rules import Rule
from grownrows.texts import show_row, show_rule, show_seen
from samples import FAR, FARTHEST, SAMPLES, begins, raised, rules

DIGITS = {39: int("9" * 39), 40: int("1" + "0" * 39), 41: int("1" + "0" * 40)}

# What is exchanged, put in or left out of a text, sign by sign.
SIGNS = " -0123459:@=,+.x_"


def changes(text):
    """Return texts in which one sign is left out, put in or exchanged, or two words are exchanged."""
    texts = []
    for at in range(len(text) + 1):
        texts += [text[:at] + sign + text[at:] for sign in SIGNS]
        if at < len(text):
            texts.append(text[:at] + text[at + 1:])
            texts += [text[:at] + sign + text[at + 1:] for sign in SIGNS]
    words = text.split(" ")
    for at in range(len(words) - 1):
        texts.append(" ".join(words[:at] + [words[at + 1], words[at]] + words[at + 2:]))
    return [changed for changed in texts if changed != text]


def is_integer(word):
    """Return whether a word is an integer of a text."""
    digits = word[1:] if word[:1] == "-" else word
    return (digits != "" and all("0" <= sign <= "9" for sign in digits) and len(digits) <= 40
            and (digits == "0" or digits[0] != "0") and word != "-0")


def integers_of(word, signs):
    """Return the integers of a word with signs in between, each of them once, None if it is another word."""
    parts = []
    for sign in signs:
        if word.count(sign) != 1:
            return None
        part, word = word.split(sign)
        parts.append(part)
    parts.append(word)
    return [int(part) for part in parts] if all(is_integer(part) for part in parts) else None


def plain_rule(text):
    """Return the tuple (prime, terms) of a text, None if it is that of nothing; a second, plain way."""
    head, *words = text.split(" ")
    terms = [integers_of(word, "@") for word in words]
    if head not in ("2:", "3:", "5:") or not terms or None in terms:
        return None
    prime = int(head[0])
    if not all(0 < coefficient < prime for coefficient, _ in terms):
        return None
    offsets = [offset for _, offset in terms]
    return (prime, [tuple(term) for term in terms]) if offsets == sorted(set(offsets)) else None


def plain_row(text):
    """Return the row of a text, None if it is that of nothing."""
    if text == "-":
        return []
    row = [integers_of(word, "=") for word in text.split(" ")]
    if None in row or not all(value > 0 for _, value in row):
        return None
    places = [place for place, _ in row]
    return [tuple(cell) for cell in row] if places == sorted(set(places)) else None


def plain_seen_cells(text):
    """Return the seen cells of a text, None if it is that of nothing."""
    if text == "-":
        return []
    cells = [integers_of(word, ",=") for word in text.split(" ")]
    if None in cells or not all(number >= 0 and value >= 0 for number, _, value in cells):
        return None
    return [tuple(cell) for cell in cells]


class ExampleTest(unittest.TestCase):

    def test_the_example_of_the_document(self):
        self.assertEqual(show_rule(Rule(3, [(2, 1), (1, -1)])), "3: 1@-1 2@1")
        self.assertEqual(show_row([(-3, 1), (5, 2)]), "-3=1 5=2")
        self.assertEqual(show_row([]), "-")
        self.assertEqual(show_seen([(10, 0, 1), (3, -2, 0)]), "10,0=1 3,-2=0")
        self.assertEqual(read_rule("2: 1@0").terms, [(1, 0)])
        self.assertEqual(read_row("0=1 5=1"), [(0, 1), (5, 1)])
        self.assertEqual(read_seen("10,0=1"), [(10, 0, 1)])


class TextTestCase(unittest.TestCase):

    def check_read(self, read, plain, text):
        """Compare what is read from a text with the plain way."""
        expected = plain(text)
        if expected is None:
            self.assertEqual(raised(read, text), (Unreadable, text))
            self.assertEqual(raised(read, text=text), (Unreadable, text))
        else:
            told = read(text)
            self.assertEqual((told.prime, told.terms) if isinstance(told, Rule) else told, expected)


class RuleTextTest(TextTestCase):

    def test_terms_in_any_sequence(self):
        for prime, terms in SAMPLES + [(2, [(1, -DIGITS[40])]), (5, [(4, DIGITS[39]), (1, DIGITS[40])])]:
            shown = f"{prime}: " + " ".join(f"{coefficient}@{offset}"
                                            for coefficient, offset in sorted(terms, key=lambda term: term[1]))
            for order in permutations(terms[:4]):
                rule = Rule(prime, list(order) + terms[4:])
                self.assertEqual(show_rule(rule), shown)
                self.assertEqual(show_rule(rule=rule), shown)
            self.assertEqual(read_rule(shown), Rule(prime, terms))
            self.assertEqual(read_rule(text=shown).terms, sorted(terms, key=lambda term: term[1]))
            self.assertIs(type(read_rule(shown)), Rule)

    def test_changed_texts(self):
        for rule in rules():
            for text in changes(show_rule(rule)):
                with self.subTest(text=text):
                    self.check_read(read_rule, plain_rule, text)

    def test_texts_of_nothing(self):
        for text in ("", "-", " ", ":", "2", "2:", "2: ", "2:  1@0", " 2: 1@0", "2: 1@0 ", "2: 1@0  1@1", "2:1@0",
                     "4: 1@0", "1: 0@0", "7: 1@0", "02: 1@0", "-2: 1@0", "2: 0@0", "2: 2@0", "3: 3@0", "5: -1@0",
                     "2: 1@-0", "2: 1@00", "2: 1@01", "2: 01@1", "2: 1@+1", "2: +1@1", "2: 1@0 1@0", "2: 1@1 1@0",
                     "3: 1@0 2@0", "3: 2@1 1@-1", "2: 1@", "2: @1", "2: 1", "2: @", "2: 1@1@1", "2: 1@1,0", "2: 1=1",
                     "2:: 1@0", "2 : 1@0", "2 1@0", "2: 1@x", "2: 1@1_0", "2: 1@1.0", "2: 1@--1", "2: 1@-", "2\n: 1@0"):
            self.assertIsNone(plain_rule(text), text)
            self.assertEqual(raised(read_rule, text), (Unreadable, text))

    def test_long_integers(self):
        for digits, number in DIGITS.items():
            for sign in ("", "-"):
                text = f"3: 2@{sign}{number}"
                self.assertEqual(plain_rule(text) is None, digits == 41)
                self.check_read(read_rule, plain_rule, text)
            self.assertEqual(raised(read_rule, f"{number}: 1@0"), (Unreadable, f"{number}: 1@0"))
            self.assertEqual(raised(read_rule, f"2: {number}@0"), (Unreadable, f"2: {number}@0"))


class RowTextTest(TextTestCase):

    def test_rows_near_and_far(self):
        for prime in (2, 3, 5):
            for middle in (0, FAR - 20, -FAR + 20, FARTHEST):
                for row in [[]] + begins(prime, middle):
                    kept = list(row)
                    text = show_row(row)
                    self.assertEqual(text, " ".join(f"{place}={value}" for place, value in row) or "-")
                    self.assertEqual(show_row(row=row), text)
                    self.assertEqual(read_row(text), row)
                    self.assertEqual(read_row(text=text), row)
                    self.assertEqual(row, kept)

    def test_told_lists_are_new(self):
        for text in ("-", "0=1 5=1"):
            told = read_row(text)
            again = list(told)
            told.append((9, 1))
            self.assertEqual(read_row(text), again)

    def test_changed_texts(self):
        for row in ([], [(0, 1)], [(-10, 4), (-1, 1), (0, 2), (12, 3)], [(9, 10), (10, 9)], [(-FAR, 1), (FAR, 4)]):
            for text in changes(show_row(row)):
                with self.subTest(text=text):
                    self.check_read(read_row, plain_row, text)

    def test_texts_of_nothing(self):
        for text in ("", " ", "--", "- ", " -", "- -", "0", "0=", "=1", "=", "0=0", "0=-1", "0=01", "00=1", "-0=1",
                     "01=1", "+1=1", "0=+1", "0=1 0=1", "1=1 0=1", "0=1  1=1", " 0=1", "0=1 ", "0=1 -", "0=1=1",
                     "0,0=1", "0@1", "0=1,1=1", "1-=1", "1=1-", "--1=1", "1_0=1", "x=1", "0 = 1", "0=1\n1=1"):
            self.assertIsNone(plain_row(text), text)
            self.assertEqual(raised(read_row, text), (Unreadable, text))

    def test_long_integers(self):
        for digits, number in DIGITS.items():
            for text in (f"{number}=1", f"-{number}=1", f"0={number}", f"-{number}=1 0={number} {number}=2"):
                self.assertEqual(plain_row(text) is None, digits == 41)
                self.check_read(read_row, plain_row, text)

    def test_long_texts(self):
        row = [(at, 1 + at % 4) for at in range(300)]
        self.assertEqual(read_row(show_row(row)), row)
        text = "9" * 2000
        self.assertEqual(raised(read_row, text), (Unreadable, text))


class SeenTextTest(TextTestCase):

    def test_seen_cells(self):
        for seen_cells in ([], [(0, 0, 0)], [(10, 0, 1), (3, -2, 0)], [(FARTHEST, -FAR, 4), (FARTHEST, -FAR, 4)],
                           [(number, 7 - number, number % 5) for number in range(20)], [(5, 3, 17)]):
            kept = list(seen_cells)
            text = show_seen(seen_cells)
            self.assertEqual(text, " ".join(f"{number},{place}={value}" for number, place, value in seen_cells) or "-")
            self.assertEqual(show_seen(seen_cells=seen_cells), text)
            self.assertEqual(read_seen(text), seen_cells)
            self.assertEqual(read_seen(text=text), seen_cells)
            self.assertEqual(seen_cells, kept)
            told = read_seen(text)
            told.append((1, 1, 1))
            self.assertEqual(read_seen(text), seen_cells)

    def test_changed_texts(self):
        for seen_cells in ([], [(0, 0, 0)], [(10, 0, 1), (3, -2, 0), (3, -2, 2)], [(FAR, -FAR, 4), (0, 12, 10)]):
            for text in changes(show_seen(seen_cells)):
                with self.subTest(text=text):
                    self.check_read(read_seen, plain_seen_cells, text)

    def test_texts_of_nothing(self):
        for text in ("", " ", "--", "- ", " -", "0,0", "0=0", "0,0=", ",0=0", "0,=0", "-1,0=0", "0,0=-1", "-0,0=0",
                     "0,-0=0", "0,0=-0", "00,0=0", "0,00=0", "0,0=00", "0,0,0", "0,0=0=0", "0=0,0", "0,0=0  1,0=0",
                     " 0,0=0", "0,0=0 ", "0,0=0 -", "0, 0=0", "0,0=0,0", "+0,0=0", "0;0=0", "x,0=0"):
            self.assertIsNone(plain_seen_cells(text), text)
            self.assertEqual(raised(read_seen, text), (Unreadable, text))

    def test_long_integers(self):
        for digits, number in DIGITS.items():
            for text in (f"{number},0=0", f"0,{number}=0", f"0,-{number}=0", f"0,0={number}",
                         f"{number},-{number}={number}"):
                self.assertEqual(plain_seen_cells(text) is None, digits == 41)
                self.check_read(read_seen, plain_seen_cells, text)


if __name__ == "__main__":
    unittest.main()
