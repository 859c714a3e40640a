"""The document read once more, plainly and slowly: what the package tells is held against it."""

import itertools

from samples import LETTER, all_deeds


def holds(test, ticket):
    status, desk, answered, days, marked = ticket
    if test[0] == "days":
        return days >= test[1]
    if test[0] in ("answered", "marked"):
        return {"answered": answered, "marked": marked}[test[0]] is test[1]
    return ({"status": status, "desk": desk}[test[0]] == test[1]) is test[2]


def begin(desks, ticket, deed):
    """The ticket behind what the deed does itself, and the events."""
    status, desk, answered, days, marked = ticket or ("new", desks[0], False, 0, False)
    if deed == ("day",):
        return (status, desk, answered, days + 1, marked), ["day"]
    if deed[0] in ("letter", "answer"):
        return (status, desk, deed[0] == "answer", 0, marked), [deed[0]]
    if deed[0] == "hand":
        return (status, deed[1], answered, days, marked), ["moved"] * (desk != deed[1])
    return (deed[1], desk, answered, days, marked), ["status"] * (status != deed[1])


def turn(desks, rules, ticket, deed):
    """What one deed leads to: (acted, replies, ticket, endless) and the kinds of faults."""
    ticket, row = begin(desks, ticket, deed)
    acted, replies, closed, twice, handled = [], 0, False, False, 0
    while row and handled < 50:
        event, row, handled, stopped = row[0], row[1:], handled + 1, False
        for index, (at, tests, actions) in enumerate(rules):
            if stopped or at != event or not all(holds(test, ticket) for test in tests):
                continue
            acted.append(index)
            for action in actions:
                status, desk, answered, days, marked = ticket
                if action[0] == "stop":
                    stopped = True
                    break
                if action[0] == "status":
                    closed = closed or status != "closed" == action[1]
                    row = row + ["status"] * (status != action[1])
                    ticket = (action[1], desk, answered, days, marked)
                elif action[0] == "desk":
                    row = row + ["moved"] * (desk != action[1])
                    ticket = (status, action[1], answered, days, marked)
                elif action[0] == "mark":
                    ticket = (status, desk, answered, days, action[1])
                else:
                    twice = twice or answered
                    replies, row = replies + 1, row + ["replied"]
                    ticket = (status, desk, True, 0, marked)
    found = {
        "endless": len(row) > 0,
        "unanswered": closed and ticket[0] == "closed" and not ticket[2],
        "twice": twice,
        "untouched": deed == LETTER and not acted,
    }
    return (acted, replies, ticket, len(row) > 0), [kind for kind, true in found.items() if true]


def most_days(*books):
    return max([test[1] for book in books for rule in book.rules() for test in rule[1] if test[0] == "days"] + [0])


def capped(ticket, most):
    return ticket[:3] + (min(ticket[3], most),) + ticket[4:]


def explore(book):
    """The fewest deeds to each kind of fault, those to each rule that acts, and the number of tickets."""
    desks, rules, most = book.desks(), book.rules(), most_days(book)
    faults, acting, seen, level, deeds = {}, {}, set(), [None], 0
    while level:
        deeds, before, level = deeds + 1, level, []
        for ticket in before:
            for deed in all_deeds(desks) if ticket else [LETTER]:
                (acted, _, behind, _), kinds = turn(desks, rules, ticket, deed)
                for kind in kinds:
                    faults.setdefault(kind, deeds)
                for index in acted:
                    acting.setdefault(index, deeds)
                if capped(behind, most) not in seen:
                    seen.add(capped(behind, most))
                    level.append(capped(behind, most))
    return faults, acting, len(seen)


def apart(book, other):
    """The fewest deeds that tell two books apart, or None."""
    desks, most = book.desks(), most_days(book, other)
    seen, level, deeds = set(), [(None, None)], 0
    while level:
        deeds, before, level = deeds + 1, level, []
        for pair in before:
            for deed in all_deeds(desks) if pair[0] else [LETTER]:
                one, _ = turn(desks, book.rules(), pair[0], deed)
                two, _ = turn(desks, other.rules(), pair[1], deed)
                if one[1] != two[1] or one[2][0] != two[2][0]:
                    return deeds
                behind = (capped(one[2], most), capped(two[2], most))
                if behind not in seen:
                    seen.add(behind)
                    level.append(behind)
    return None


def fewest(book):
    """The fewest rules to leave out, or None."""
    for many in range(len(book) + 1):
        for indexes in itertools.combinations(range(len(book)), many):
            if not explore(book.without(indexes))[0]:
                return indexes
    return None
