"""What the rules of a book do at one event."""


class Effect:
    """A ticket while the rules are tried for one event, and what they do meanwhile."""

    def __init__(self, ticket):
        self.status, self.desk, self.answered, self.days, self.marked = ticket
        self.events = []
        self.acted = []
        self.sent = 0
        self.closed_by_rule = False
        self.sent_twice = False

    def ticket_now(self):
        """The ticket as a tuple."""
        return (self.status, self.desk, self.answered, self.days, self.marked)

    def try_rules(self, rules):
        """Try the rules of the event in their order, each a tuple (index, tests, actions)."""
        for index, tests, actions in rules:
            # Each rule sees what the rules before it did, so its tests are not asked earlier.
            if all([self.holds(test) for test in tests]):
                self.acted.append(index)
                if self.carry_out(actions):
                    return

    def holds(self, test):
        """Whether a test holds for the ticket as it is now."""
        word = test[0]
        if word == "status":
            return (self.status == test[1]) == test[2]
        if word == "desk":
            return (self.desk == test[1]) == test[2]
        if word == "answered":
            return self.answered == test[1]
        if word == "marked":
            return self.marked == test[1]
        return self.days >= test[1]

    def carry_out(self, actions):
        """Carry out the actions of a rule in order; whether one of them was "stop"."""
        for action in actions:
            word = action[0]
            if word == "stop":
                return True
            if word == "status":
                self.set_status(action[1])
            elif word == "desk":
                self.move(action[1])
            elif word == "reply":
                self.send_reply()
            else:
                self.marked = action[1]
        return False

    def set_status(self, status):
        """Give the ticket a status, which is an event if it had another one."""
        if self.status != status:
            self.status = status
            self.events.append("status")
            # Kept in mind although the ticket may be open again behind the deed.
            if status == "closed":
                self.closed_by_rule = True

    def move(self, desk):
        """Hand the ticket over to a desk, which is an event if it was at another one."""
        if self.desk != desk:
            self.desk = desk
            self.events.append("moved")

    def send_reply(self):
        """Send a standard reply."""
        if self.answered:
            self.sent_twice = True
        self.answered = True
        self.days = 0
        self.sent += 1
        self.events.append("replied")
