"""Rows of large numbers, as rows of smaller numbers of other begins."""

from grownrows.factors import without_factor
from grownrows.lanes import lanes_of_text, ones_for, remainders, text_of


class Splits:
    """The begins whose rows n have together the cells of row prime * n + digit of a begin, each as a text.

    As many steps as the prime are one step with all offsets multiplied by the prime. So, the digit's steps once made,
    the cells whose places have the same remainder by the prime grow for themselves, as the begin of a row.
    """

    def __init__(self, growth):
        self._prime = growth.modulus
        self._width = growth.width
        self._pattern = growth.pattern()
        self._kept = {}
        self._kept_begins = {}

    def parts(self, begin):
        """Return, for each digit, a dict of the tuples (factor, begin, lead) of the begins that are not all zeros.

        Their keys are the remainders. lead tells how many zeros were left out ahead of the begin.
        """
        if begin not in self._kept:
            self._kept[begin] = self._worked_out(begin)
        return self._kept[begin]

    def begins(self, begin):
        """Return, for each digit, the list of the tuples (factor, begin) of the begins that are not all zeros."""
        if begin not in self._kept_begins:
            self._kept_begins[begin] = [[(factor, part) for factor, part, _ in parts.values()]
                                        for parts in self.parts(begin)]
        return self._kept_begins[begin]

    def _worked_out(self, begin):
        """Return the list of the dicts of parts, not kept before."""
        ones = ones_for(len(begin) + self._prime * self._width)
        lanes = lanes_of_text(begin)
        all_parts = [self._parts_of(begin)]
        for _ in range(1, self._prime):
            lanes = remainders(self._prime, lanes * self._pattern, ones)
            all_parts.append(self._parts_of(text_of(lanes)))
        return all_parts

    def _parts_of(self, text):
        """Return the dict of the parts into which the cells of a text fall."""
        parts = {}
        for at in range(self._prime):
            cells = text[at::self._prime]
            behind = cells.lstrip("0")
            if behind:
                factor, begin = without_factor(self._prime, behind.rstrip("0"))
                parts[at] = (factor, begin, len(cells) - len(behind))
        return parts
