"""Gaps: stretches of zeros with a cell that is not 0 on both sides."""

from grownrows.checks import check_number, check_row
from grownrows.errors import InvalidNumber
from grownrows.rows import ends_of
from grownrows.tree import ROOT, Tree


def longest_gap(rule, row, number):
    """Return the tuple (length, place) of the first longest gap of the row with a number, None if there is none."""
    check_row(rule.prime, row)
    check_number(number)
    if not row:
        return None
    tree = Tree(rule, row, number)
    _, _, length, at, _ = _told_of_gaps(tree, 1)[0][ROOT]
    return (length, tree.first + at) if length > 0 else None


def count_gaps(rule, row, number, least):
    """Return how many gaps of the row with a number have at least so many zeros."""
    check_row(rule.prime, row)
    check_number(number)
    if least < 1:
        raise InvalidNumber(least)
    if not row:
        return 0
    _, _, _, _, many = _told_of_gaps(Tree(rule, row, number), least)[0][ROOT]
    return many


def gap_at(rule, row, number, place):
    """Return the tuple (length, place) of the gap in which a place of the row with a number lies, None for no gap."""
    ends = ends_of(rule, row, number)
    if ends is None or not ends[0] < place < ends[1]:
        return None
    tree = Tree(rule, row, number)
    before, behind = _cells_beside(tree, place - tree.first)
    return (behind - before - 1, tree.first + before + 1) if before < behind else None


def _told_of_gaps(tree, least):
    """Return the dicts of what is told of the gaps in blocks (see Tree): None for zeros alone, otherwise a tuple.

    It is (first, last, length, at, many): the first and the last cell that is not 0, the length of the first longest
    gap between these and its first zero, 0 both if there is none, and how many gaps have at least so many zeros.
    """
    return tree.folded(lambda text: _told_of_text(text, least), lambda parts, size: _told_of_parts(parts, size, least))


def _told_of_text(text, least):
    """Return what is told of the gaps in a text."""
    lit = [at for at, digit in enumerate(text) if digit != "0"]
    if not lit:
        return None
    gaps = [(behind - before - 1, before + 1) for before, behind in zip(lit, lit[1:]) if behind > before + 1]
    length, at = max(gaps, key=lambda gap: gap[0], default=(0, 0))
    return (lit[0], lit[-1], length, at, len([gap for gap in gaps if gap[0] >= least]))


def _told_of_parts(parts, size, least):
    """Return what is told of the gaps of blocks of a size side by side, by what is told of each of them."""
    begin = end = None
    longest = longest_at = all_many = start = 0
    for _, told in parts:
        if told is not None:
            first, last, length, at, many = told
            if begin is None:
                begin = start + first
            else:
                between = start + first - end - 1
                if between > longest:
                    longest, longest_at = between, end + 1
                if between >= least:
                    all_many += 1
            if length > longest:
                longest, longest_at = length, start + at
            all_many += many
            end = start + last
        start += size
    return None if begin is None else (begin, end, longest, longest_at, all_many)


def _cells_beside(tree, index):
    """Return the last cell up to an index between the ends that is not 0, and the first one from the index on."""
    before, behind = [], []
    start, size = 0, tree.size
    steps, text, _ = tree.path(index)
    for all_told, (blocks, at) in zip(_told_of_gaps(tree, 1)[1:], steps):
        told = [all_told[window] for _, window in blocks]
        before.extend([start + number * size + told[number][1] for number in range(at) if told[number] is not None])
        behind.extend([start + number * size + told[number][0] for number in range(at + 1, len(blocks))
                       if told[number] is not None])
        start, size = start + at * size, size // tree.modulus
    lit = [start + cell for cell, digit in enumerate(text) if digit != "0"]
    before.extend([cell for cell in lit if cell <= index])
    behind.extend([cell for cell in lit if cell >= index])
    return (max(before), min(behind))
