"""What holds for all histories by one book."""

from lettersdesk.errors import NoKind, NoRule
from lettersdesk.kinds import is_index, is_word
from lettersdesk.moves import moves_of, reached, shortest
from lettersdesk.plays import faults

KINDS = ("endless", "unanswered", "twice", "untouched")


def first_fault(book):
    """As few deeds as any that have faults, or None if the book is right."""
    return shortest(moves_of(book), lambda turn: len(turn.kinds) > 0)


def first_of(book, kind):
    """As few deeds as any that have a fault of this kind, or None if no history has one."""
    if not is_word(kind, KINDS):
        raise NoKind("there is no such kind of fault")
    return shortest(moves_of(book), lambda turn: kind in turn.kinds)


def is_right(book):
    """Whether no history has a fault."""
    return first_fault(book) is None


def acting(book, index):
    """As few deeds as any in which the rule with this index acts, or None if it acts in no history."""
    if not is_index(index, len(book)):
        raise NoRule(index)
    return shortest(moves_of(book), lambda turn: index in turn.acted)


def idle(book):
    """The list of the indexes of the rules that act in no history."""
    moves = moves_of(book)
    has_acted = [False] * len(book)
    for state in [moves.start] + reached(moves):
        for _, turn in moves.moves_at(state):
            for index in turn.acted:
                has_acted[index] = True
    return [index for index in range(len(book)) if not has_acted[index]]


def states(book):
    """How many tickets there can be behind a deed, with all days alike from the most that a rule names on."""
    return len(reached(moves_of(book)))


def fewest_out(book):
    """The tuple of the indexes of the fewest rules without which the book is right, or None."""
    histories = []
    for indexes in _choices(len(book)):
        rest = book.without(indexes)
        # What goes wrong with some rules often goes wrong with others, and to play it is less work than to search.
        if not _goes_wrong(rest, histories):
            history = first_fault(rest)
            if history is None:
                return indexes
            histories.append(history)
    return None


def _goes_wrong(book, histories):
    """Whether one of these histories has a fault."""
    for deeds in histories:
        if len(faults(book, deeds)) > 0:
            return True
    return False


def _choices(many):
    """All tuples of ascending indexes below a number: the shorter ones first, those as short in their order."""
    found = []
    last = [()]
    while len(last) > 0:
        found.extend(last)
        last = [chosen + (index,) for chosen in last for index in range(_next_index(chosen), many)]
    return found


def _next_index(chosen):
    return chosen[-1] + 1 if len(chosen) > 0 else 0
