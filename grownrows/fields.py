"""Fields: rows that grow while cells are added and rules change."""

from grownrows.checks import check_number, check_row, check_value
from grownrows.errors import NothingToUndo, TooFar, UnlikePrimes
from grownrows.mixtures import Mixture

GROW = "grow"
ADD = "add"
TURN = "turn"


class Field:
    """A row that grows, told by its first rule, its begin and the story of all calls that are not taken back."""

    def __init__(self, rule, row):
        check_row(rule.prime, row)
        self._first_rule = rule
        self._begin = list(row)
        self._story = []
        self._most = None

    def __eq__(self, other):
        if not isinstance(other, Field):
            return False
        return (self._first_rule == other._first_rule and self._begin == other._begin
                and self._story == other._story and self._most == other._most)

    def __len__(self):
        return len(self._story)

    @property
    def rule(self):
        """The present rule."""
        rules = [call[1] for call in self._story if call[0] == TURN]
        return rules[-1] if rules else self._first_rule

    @property
    def steps(self):
        """The number of all steps that are not taken back."""
        return sum([call[1] for call in self._story if call[0] == GROW])

    def grow(self, number):
        """Make so many steps."""
        check_number(number)
        self._story.append((GROW, number))

    def add(self, place, value):
        """Add a value to that of a cell of the present row."""
        check_value(self._first_rule.prime, value, 1)
        self._story.append((ADD, place, value))

    def turn(self, rule):
        """Go on with another rule."""
        prime = self._first_rule.prime
        if rule.prime != prime:
            raise UnlikePrimes((prime, rule.prime))
        self._story.append((TURN, rule))

    def undo(self):
        """Take back the last call of the other three that is not taken back yet."""
        if not self._story:
            raise NothingToUndo(0)
        self._story.pop()

    def value_at(self, place):
        """Return the present value of a cell."""
        # A step is linear: the begin and each cell that was added grow for themselves.
        rules = self._unlike_rules()
        rows, all_steps = self._rows_with_steps(rules)
        mixture = Mixture(rules)
        values = [mixture.value_at(row, [made - before for made, before in zip(all_steps, steps)], place)
                  for row, steps in rows]
        return sum(values) % self._first_rule.prime

    def story(self):
        """Return the new list of the calls that are not taken back."""
        return list(self._story)

    def _unlike_rules(self):
        """Return the list of all rules by which the field has ever grown, each one once, the first one first."""
        rules = [self._first_rule]
        for call in self._story:
            if call[0] == TURN and call[1] not in rules:
                rules.append(call[1])
        return rules

    def _rows_with_steps(self, rules):
        """Return the begin and the added cells, as rows, and how many steps each of the rules made in all.

        The former are a list of tuples (row, steps), with the steps that each of the rules had made before.
        """
        at, made = 0, [0 for _ in rules]
        rows = [(self._begin, list(made))]
        for call in self._story:
            if call[0] == TURN:
                at = rules.index(call[1])
            elif call[0] == GROW:
                made[at] += call[1]
            else:
                rows.append(([(call[1], call[2])], list(made)))
        return (rows, made)


class ShortField(Field):
    """A field that makes at most so many steps in all."""

    def __init__(self, rule, row, most):
        super().__init__(rule, row)
        check_number(most)
        self._most = most

    def grow(self, number):
        """Make so many steps, if they are not too many."""
        check_number(number)
        steps = self.steps + number
        if steps > self._most:
            raise TooFar(steps)
        super().grow(number)
