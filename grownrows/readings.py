"""Rules, rows and seen cells that are read from their texts."""

from grownrows.errors import GrowthError, Unreadable
from grownrows.rules import Rule
from grownrows.texts import show_row, show_rule, show_seen

# An integer with more digits than these is none of a text.
MOST_DIGITS = 40


def read_rule(text):
    """Return the rule with a text."""
    words = text.split(" ")
    prime = _integer(text, words[0].removesuffix(":"))
    terms = []
    for word in words[1:]:
        coefficient, _, offset = word.partition("@")
        terms.append((_integer(text, coefficient), _integer(text, offset)))
    try:
        rule = Rule(prime, terms)
    except GrowthError:
        raise Unreadable(text) from None
    _check_shown(text, show_rule(rule))
    return rule


def read_row(text):
    """Return the row with a text."""
    row = []
    for word in _words_of(text):
        place, _, value = word.partition("=")
        row.append((_integer(text, place), _integer(text, value)))
    ascending = all([place < next_place for (place, _), (next_place, _) in zip(row, row[1:])])
    if not ascending or min([value for _, value in row], default=1) < 1:
        raise Unreadable(text)
    _check_shown(text, show_row(row))
    return row


def read_seen(text):
    """Return the list of seen cells with a text."""
    seen_cells = []
    for word in _words_of(text):
        number, _, cell = word.partition(",")
        place, _, value = cell.partition("=")
        seen_cells.append((_integer(text, number), _integer(text, place), _integer(text, value)))
    if min([min(number, value) for number, _, value in seen_cells], default=0) < 0:
        raise Unreadable(text)
    _check_shown(text, show_seen(seen_cells))
    return seen_cells


def _words_of(text):
    """Return the list of the words of a text, none for that of nothing."""
    return [] if text == "-" else text.split(" ")


def _integer(text, word):
    """Return the integer that a word of a text is, if it may be written with a sign and zeros ahead."""
    digits = word.removeprefix("-")
    if not digits.isdecimal() or len(digits) > MOST_DIGITS:
        raise Unreadable(text)
    return int(word)


def _check_shown(text, shown):
    """Raise Unreadable if what was read has another text."""
    if text != shown:
        raise Unreadable(text)
