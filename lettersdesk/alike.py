"""Whether two books are the same to everybody who writes."""

from lettersdesk.errors import NoDesks
from lettersdesk.moves import Moves, Twins, most_days, moves_of, shortest


def told_apart(book, other):
    """As few deeds as any at which replies or statuses differ, or None if there are none."""
    if book.desks() != other.desks():
        raise NoDesks("the two books have different desks")
    most = max(most_days(book.rules()), most_days(other.rules()))
    return shortest(Twins(Moves(book, most), Moves(other, most)), _differ)


def loose(book):
    """The list of the indexes of the rules that may be exchanged with the next one, and nobody who writes sees it."""
    moves = moves_of(book)
    return [index for index in range(len(book) - 1) if _is_loose(book, index, moves)]


def _is_loose(book, index, moves):
    # Rules at different events are never tried for the same one, so their order can not matter.
    if book[index][0] != book[index + 1][0]:
        return True
    return shortest(Twins(moves, moves_of(book.exchanged(index))), _differ) is None


def _differ(turns):
    """Whether the numbers of replies or the statuses behind the deed differ."""
    ours, theirs = turns
    return ours.sent != theirs.sent or ours.behind[0] != theirs.behind[0]
