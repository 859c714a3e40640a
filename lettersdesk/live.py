"""A live desk: the tickets of many people, with undo."""

from lettersdesk.errors import NoDeed, NoDesk, NoDesks, NoPerson, NothingToUndo, NoTicket
from lettersdesk.kinds import is_deed, is_name, is_word
from lettersdesk.turns import Works


class Desk:
    """Works the tickets of many people by a book of rules."""

    def __init__(self, book):
        self._works = Works(book)
        self._tickets = {}
        self._sent = 0
        # For each call that is not taken back, how it was before.
        self._saved = []

    def do(self, person, deed):
        """Play a deed for a person's ticket; its report."""
        if not is_name(person):
            raise NoPerson("this is not a name")
        if not is_deed(deed, self._works.rulebook.desks()):
            raise NoDeed(len(self._saved))
        if person not in self._tickets and deed[0] != "letter":
            raise NoTicket(len(self._saved))
        self._save()
        return self._play(person, deed)

    def day(self):
        """Play a day for each ticket; the list of tuples (person, report)."""
        self._save()
        reports = []
        for person in self.people():
            reports.append((person, self._play(person, ("day",))))
        return reports

    def undo(self):
        """Take back the last call that is not taken back."""
        if len(self._saved) == 0:
            raise NothingToUndo("nothing was done that is not taken back")
        self._works, self._tickets, self._sent = self._saved.pop()

    def change(self, book):
        """Go on with another book."""
        if book.desks() != self._works.rulebook.desks():
            raise NoDesks("the other book has different desks")
        self._save()
        self._works = Works(book)

    def ticket(self, person):
        """The ticket of a person as a tuple."""
        if not is_word(person, self._tickets):
            raise NoPerson("this person has no ticket")
        return self._tickets[person]

    def people(self):
        """The list of the people with a ticket, in the order in which these began."""
        return list(self._tickets)

    def at(self, name):
        """The list of the people whose tickets are at a desk and not closed."""
        if not is_word(name, self._works.rulebook.desks()):
            raise NoDesk(name)
        return [person for person, ticket in self._tickets.items() if ticket[1] == name and ticket[0] != "closed"]

    def __contains__(self, person):
        return is_word(person, self._tickets)

    def __len__(self):
        return len(self._saved)

    @property
    def replies(self):
        """The number of replies that were sent."""
        return self._sent

    @property
    def book(self):
        """The book; another one can be assigned, as by `change`."""
        return self._works.rulebook

    @book.setter
    def book(self, value):
        self.change(value)

    def _save(self):
        """Keep how it is now, for an undo."""
        self._saved.append((self._works, self._tickets, self._sent))
        self._tickets = dict(self._tickets)

    def _play(self, person, deed):
        turn = self._works.turn(self._tickets.get(person), deed)
        # A ticket keeps its place among the others when it is replaced.
        self._tickets[person] = turn.behind
        self._sent += turn.sent
        return turn.report()
