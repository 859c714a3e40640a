"""Histories of a ticket, and what goes wrong in them."""

from lettersdesk.errors import NoDeed, NoTicket
from lettersdesk.kinds import is_deed
from lettersdesk.turns import turn_of


def play(book, deeds):
    """The list of the reports of the deeds: tuples (acted, replies, ticket, endless)."""
    return [turn.report() for turn in _turns(book, deeds)]


def faults(book, deeds):
    """The list of what goes wrong: tuples (kind, index of the deed)."""
    found = []
    for index, turn in enumerate(_turns(book, deeds)):
        found.extend([(kind, index) for kind in turn.fault_kinds()])
    return found


def _turns(book, deeds):
    """The turns of the deeds, one after the other at the same ticket."""
    _check_deeds(book, deeds)
    turns = []
    ticket = None
    for deed in deeds:
        turn = turn_of(book, ticket, deed)
        ticket = turn.ticket_now()
        turns.append(turn)
    return turns


def _check_deeds(book, deeds):
    if not isinstance(deeds, list):
        raise NoDeed(0)
    for index, deed in enumerate(deeds):
        if not is_deed(deed, book.desks()):
            raise NoDeed(index)
    # A ticket never goes away, so only the first deed can come before there is one.
    if len(deeds) > 0 and deeds[0][0] != "letter":
        raise NoTicket(0)
