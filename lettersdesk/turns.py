"""One deed at a ticket: its events in a row, and what the rules do at them."""

MOST_EVENTS = 50


class Turn:
    """A ticket while one deed is played for it, and what happens meanwhile."""

    def __init__(self, ticket, deed):
        self.status, self.desk, self.answered, self.days, self.marked = ticket
        self.deed = deed
        self.row = []
        self.acted = []
        self.sent = 0
        self.endless = False
        self.closed_by_rule = False
        self.sent_twice = False

    def ticket_now(self):
        """The ticket as a tuple."""
        return (self.status, self.desk, self.answered, self.days, self.marked)

    def report(self):
        """What `play` tells of the deed."""
        return (list(self.acted), self.sent, self.ticket_now(), self.endless)

    def fault_kinds(self):
        """The kinds of what goes wrong in the deed, in the order in which `faults` lists them."""
        kinds = []
        if self.endless:
            kinds.append("endless")
        if self.closed_by_rule and self.status == "closed" and not self.answered:
            kinds.append("unanswered")
        if self.sent_twice:
            kinds.append("twice")
        if self.deed[0] == "letter" and len(self.acted) == 0:
            kinds.append("untouched")
        return kinds

    def begin(self):
        """What the deed itself does."""
        word = self.deed[0]
        if word == "hand":
            self.move(self.deed[1])
        elif word == "set":
            self.set_status(self.deed[1])
        elif word == "day":
            self.days += 1
            self.row.append("day")
        else:
            self.answered = word == "answer"
            self.days = 0
            self.row.append(word)

    def run(self, rules):
        """Handle the events of the row until none is left, or too many were handled."""
        handled = 0
        while len(self.row) > 0 and handled < MOST_EVENTS:
            event = self.row.pop(0)
            self.handle(event, rules)
            handled += 1
        self.endless = len(self.row) > 0
        self.row = []

    def handle(self, event, rules):
        """Try the rules in their order for one event."""
        for index, (rule_event, tests, actions) in enumerate(rules):
            # Each rule sees what the rules before it did, so its tests are not asked earlier.
            if rule_event == event and all([self.holds(test) for test in tests]):
                self.acted.append(index)
                if self.carry_out(actions):
                    return

    def holds(self, test):
        """Whether a test holds for the ticket as it is now."""
        word = test[0]
        if word == "status":
            return (self.status == test[1]) == test[2]
        if word == "desk":
            return (self.desk == test[1]) == test[2]
        if word == "answered":
            return self.answered == test[1]
        if word == "marked":
            return self.marked == test[1]
        return self.days >= test[1]

    def carry_out(self, actions):
        """Carry out the actions of a rule in order; whether one of them was "stop"."""
        for action in actions:
            word = action[0]
            if word == "stop":
                return True
            if word == "status":
                self.set_status_by_rule(action[1])
            elif word == "desk":
                self.move(action[1])
            elif word == "reply":
                self.send_reply()
            else:
                self.marked = action[1]
        return False

    def set_status(self, status):
        """Give the ticket a status, which is an event if it had another one."""
        if self.status != status:
            self.status = status
            self.row.append("status")

    def set_status_by_rule(self, status):
        """Set the status, and keep in mind that it was a rule, not a person, that closed the ticket."""
        if status == "closed" and self.status != "closed":
            self.closed_by_rule = True
        self.set_status(status)

    def move(self, desk):
        """Hand the ticket over to a desk, which is an event if it was at another one."""
        if self.desk != desk:
            self.desk = desk
            self.row.append("moved")

    def send_reply(self):
        """Send a standard reply."""
        if self.answered:
            self.sent_twice = True
        self.answered = True
        self.days = 0
        self.sent += 1
        self.row.append("replied")


def turn_of(book, ticket, deed):
    """The turn in which a deed was played for a ticket, or for None, as long as there is no ticket."""
    if ticket is None:
        ticket = ("new", book.desks()[0], False, 0, False)
    turn = Turn(ticket, deed)
    turn.begin()
    turn.run(book.rules())
    return turn
