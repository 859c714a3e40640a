"""Deeds at a ticket: what each one does itself, and what the rules of a book make of it."""

from lettersdesk.effects import Effect
from lettersdesk.kinds import EVENTS

MOST_EVENTS = 50


class Turn:
    """One deed at a ticket, from the deed's own event on until no event is left.

    `behind` is the ticket behind the deed, `kinds` are the kinds of what went wrong, as `faults` lists them.
    """

    def __init__(self, event, ticket):
        self.event = event
        self.behind = ticket
        self.acted = []
        self.sent = 0
        self.endless = False
        self.closed_by_rule = False
        self.sent_twice = False
        self.kinds = []

    def report(self):
        """What `play` tells of the deed."""
        return (list(self.acted), self.sent, self.behind, self.endless)

    def run(self, works):
        """Handle the events in their order until none is left, or too many were handled."""
        events = [] if self.event is None else [self.event]
        handled = 0
        while handled < len(events) and handled < MOST_EVENTS:
            effect = works.effect(events[handled], self.behind)
            self.take(effect)
            events.extend(effect.events)
            handled += 1
        self.endless = handled < len(events)
        self.kinds = self.fault_kinds()

    def take(self, effect):
        """Add what the rules did at one event."""
        self.behind = effect.ticket_now()
        self.acted.extend(effect.acted)
        self.sent += effect.sent
        self.closed_by_rule = self.closed_by_rule or effect.closed_by_rule
        self.sent_twice = self.sent_twice or effect.sent_twice

    def fault_kinds(self):
        """The kinds of what goes wrong in the deed, in the order in which `faults` lists them."""
        status, _, answered, _, _ = self.behind
        kinds = []
        if self.endless:
            kinds.append("endless")
        if self.closed_by_rule and status == "closed" and not answered:
            kinds.append("unanswered")
        if self.sent_twice:
            kinds.append("twice")
        if self.event == "letter" and len(self.acted) == 0:
            kinds.append("untouched")
        return kinds


class Works:
    """A book at work, which keeps in mind what its rules did at each event at each ticket."""

    def __init__(self, book):
        self.rulebook = book
        self._rules_at = {event: [] for event in EVENTS}
        for index, (event, tests, actions) in enumerate(book.rules()):
            self._rules_at[event].append((index, tests, actions))
        self._effects = {}

    def effect(self, event, ticket):
        """What the rules do at this event at this ticket."""
        key = (event, ticket)
        if key not in self._effects:
            effect = Effect(ticket)
            effect.try_rules(self._rules_at[event])
            self._effects[key] = effect
        return self._effects[key]

    def begun(self, ticket, deed):
        """What the deed itself does: its event or None, and the ticket; None stands for no ticket yet."""
        if ticket is None:
            ticket = ("new", self.rulebook.desks()[0], False, 0, False)
        status, desk, answered, days, marked = ticket
        word = deed[0]
        if word == "letter":
            return "letter", (status, desk, False, 0, marked)
        if word == "answer":
            return "answer", (status, desk, True, 0, marked)
        if word == "day":
            return "day", (status, desk, answered, days + 1, marked)
        if word == "hand":
            event = "moved" if desk != deed[1] else None
            return event, (status, deed[1], answered, days, marked)
        event = "status" if status != deed[1] else None
        return event, (deed[1], desk, answered, days, marked)

    def run(self, event, ticket):
        """The turn of a deed that has done this by itself."""
        turn = Turn(event, ticket)
        turn.run(self)
        return turn

    def turn(self, ticket, deed):
        """The turn of a deed at a ticket, or at None as long as there is no ticket."""
        event, begun = self.begun(ticket, deed)
        return self.run(event, begun)
