"""Books of rules."""

from lettersdesk.errors import NoDesks, NoRule
from lettersdesk.kinds import are_desks, is_index, is_rule

MOST_RULES = 8


class Book:
    """Desks, and the rules with these desks, in their order. A book never changes."""

    def __init__(self, desks, rules):
        if not are_desks(desks):
            raise NoDesks("desks are a tuple of 1 to 4 distinct names")
        if not isinstance(rules, tuple):
            raise NoRule(0)
        for index, rule in enumerate(rules):
            if index >= MOST_RULES or not is_rule(rule, desks):
                raise NoRule(index)
        self._desks = desks
        self._rules = rules

    def desks(self):
        """The tuple of the desks."""
        return self._desks

    def rules(self):
        """The tuple of the rules."""
        return self._rules

    def __len__(self):
        return len(self._rules)

    def __getitem__(self, at):
        if not self._has(at):
            raise NoRule(at)
        return self._rules[at]

    def __iter__(self):
        raise TypeError("the rules of a book are iterated over by its method rules")

    def __eq__(self, other):
        return isinstance(other, Book) and self._desks == other._desks and self._rules == other._rules

    def __add__(self, other):
        if self._desks != other._desks:
            raise NoDesks("the two books have different desks")
        return Book(self._desks, self._rules + other._rules)

    def without(self, indexes):
        """The book without the rules with these indexes."""
        if not isinstance(indexes, tuple):
            raise NoRule(0)
        left_out = []
        for index in indexes:
            if not self._has(index) or index in left_out:
                raise NoRule(index)
            left_out.append(index)
        return Book(self._desks, tuple([rule for at, rule in enumerate(self._rules) if at not in left_out]))

    def exchanged(self, index):
        """The book with the rules index and index + 1 exchanged."""
        if not self._has(index) or not self._has(index + 1):
            raise NoRule(index)
        rules = list(self._rules)
        rules[index], rules[index + 1] = rules[index + 1], rules[index]
        return Book(self._desks, tuple(rules))

    def _has(self, index):
        """Whether this is the index of a rule."""
        return is_index(index, len(self._rules))
