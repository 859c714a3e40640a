"""Histories of a ticket, and what goes wrong in them."""

from lettersdesk.errors import NoDeed, NoTicket
from lettersdesk.kinds import wrong_deed
from lettersdesk.turns import Works


def play(book, deeds):
    """The list of the reports of the deeds: tuples (acted, replies, ticket, endless)."""
    return [turn.report() for turn in _turns(book, deeds)]


def faults(book, deeds):
    """The list of what goes wrong: tuples (kind, index of the deed)."""
    found = []
    for index, turn in enumerate(_turns(book, deeds)):
        found.extend([(kind, index) for kind in turn.kinds])
    return found


def _turns(book, deeds):
    """The turns of the deeds, one after the other at the same ticket."""
    _check_deeds(book, deeds)
    works = Works(book)
    turns = []
    ticket = None
    for deed in deeds:
        turn = works.turn(ticket, deed)
        ticket = turn.behind
        turns.append(turn)
    return turns


def _check_deeds(book, deeds):
    wrong = wrong_deed(deeds, book.desks())
    if wrong is not None:
        raise NoDeed(wrong)
    # A ticket never goes away, so only the first deed can come before there is one.
    if len(deeds) > 0 and deeds[0][0] != "letter":
        raise NoTicket(0)
