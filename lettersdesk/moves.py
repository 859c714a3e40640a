"""All that can happen at a ticket, as moves from one state to the next.

There are finitely many states because rules ask only whether there are at least so many days: from the greatest
number that a rule names on, all numbers of days are alike.
"""

from lettersdesk.kinds import DEED_FORMS, all_of
from lettersdesk.turns import Works


class Moves:
    """What each deed does at each ticket, by one book. A state is a ticket, or None as long as there is none."""

    def __init__(self, book, most):
        self.start = None
        self.deeds = all_of(DEED_FORMS, book.desks())
        self._works = Works(book)
        self._alike = alike_days(book.rules(), most)
        self._turns = {}
        self._known = {}

    def moves_at(self, ticket):
        """For each of the deeds, in their order, the ticket behind it and its turn; for None for the letter only."""
        if ticket not in self._known:
            # The first of the deeds is the letter.
            deeds = self.deeds[:1] if ticket is None else self.deeds
            self._known[ticket] = [self._move(ticket, deed) for deed in deeds]
        return self._known[ticket]

    def _move(self, ticket, deed):
        event, (status, desk, answered, days, marked) = self._works.begun(ticket, deed)
        days = min(days, len(self._alike) - 1)
        turn = self._turn(event, (status, desk, answered, self._alike[days], marked))
        status, desk, answered, _, marked = turn.behind
        # Rules change the number of days only by a reply.
        return (status, desk, answered, days if turn.sent == 0 else 0, marked), turn

    def _turn(self, event, ticket):
        """The turn of a deed, worked out once for all numbers of days that the rules do not tell apart."""
        key = (event, ticket)
        if key not in self._turns:
            self._turns[key] = self._works.run(event, ticket)
        return self._turns[key]


class Twins:
    """The same deeds at the tickets of two books. A state is a pair of states, and so are the turns."""

    def __init__(self, one, two):
        self.start = (one.start, two.start)
        self.deeds = one.deeds
        self._one = one
        self._two = two

    def moves_at(self, states):
        """For each of the deeds, in their order, the states behind it and its two turns."""
        ours = self._one.moves_at(states[0])
        theirs = self._two.moves_at(states[1])
        return [((one[0], two[0]), (one[1], two[1])) for one, two in zip(ours, theirs)]


def moves_of(book):
    """The moves by a book alone."""
    return Moves(book, most_days(book.rules()))


def most_days(rules):
    """The greatest number of days that the rules name, 0 if they name none."""
    return max([test[1] for _, tests, _ in rules for test in tests if test[0] == "days"], default=0)


def alike_days(rules, most):
    """For each number of days, from 0 to the most, the least one for which the tests of each rule are the same."""
    # Tests of one rule must hold together, so only the greatest number of each rule counts.
    limits = [most_days((rule,)) for rule in rules]
    return [max([limit for limit in limits if limit <= days], default=0) for days in range(most + 1)]


def shortest(moves, wanted):
    """A list of deeds, as few as any, of which the last one has a wanted turn; None if no history has one."""
    deeds, _ = _walk(moves, wanted)
    return deeds


def reached(moves):
    """The list of the states behind all deeds of all histories."""
    _, states = _walk(moves, lambda turn: False)
    return states[1:]


def _walk(moves, wanted):
    """The deeds up to the first wanted turn or None, and the list of the states that were met before it."""
    came_by = {moves.start: None}
    states = [moves.start]
    at = 0
    # States that take fewer deeds stand ahead of those that take more.
    while at < len(states):
        state = states[at]
        at += 1
        for deed, (behind, turn) in zip(moves.deeds, moves.moves_at(state)):
            if wanted(turn):
                return _deeds_to(came_by, state) + [deed], states
            if behind not in came_by:
                came_by[behind] = (state, deed)
                states.append(behind)
    return None, states


def _deeds_to(came_by, state):
    """The deeds that lead to a state."""
    deeds = []
    while came_by[state] is not None:
        state, deed = came_by[state]
        deeds.append(deed)
    return deeds[::-1]
