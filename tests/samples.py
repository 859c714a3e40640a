"""Values that several test files need."""

from lettersdesk.books import Book

DESKS = ("front", "back")
LETTER = ("letter",)
ANSWER = ("answer",)
DAY = ("day",)
REPLY = ("letter", (), (("reply",),))
STOP = ("letter", (), (("stop",),))

STATUSES = ("new", "open", "waiting", "closed")
EVENTS = ("letter", "answer", "day", "moved", "status", "replied")
KINDS = ("endless", "unanswered", "twice", "untouched")


class Alike:
    """An object that calls itself equal to everything, and has no hash."""

    def __eq__(self, other):
        return True

    __hash__ = None


class Touchy:
    """An object that can not be compared, told or tested."""

    def _fail(self, *told):
        raise RuntimeError("this object is not asked")

    __eq__ = __ne__ = __bool__ = __len__ = __repr__ = __str__ = _fail
    __hash__ = None


def odd_values():
    """Values of all kinds that are no tuple, no list, no string and no integer."""
    return [None, True, False, 1.0, b"new", {}, {"new": 1}, {"new"}, object(), Alike(), Touchy(), len, str]


def book_of(*rules):
    return Book(DESKS, rules)


def hand(desk):
    return ("hand", desk)


def put(status):
    return ("set", status)


def all_deeds(desks):
    """Every deed with these desks."""
    return [LETTER, ANSWER, DAY] + [hand(desk) for desk in desks] + [put(status) for status in STATUSES]


def random_test(source, desks, days):
    word = source.choice(["status", "desk", "answered", "marked", "days"])
    if word == "days":
        return (word, source.randint(1, days))
    wanted = source.random() < 0.5
    if word == "status":
        return (word, source.choice(STATUSES), wanted)
    return (word, source.choice(desks), wanted) if word == "desk" else (word, wanted)


def random_action(source, desks):
    word = source.choice(["status", "status", "desk", "reply", "mark", "stop"])
    if word == "status":
        return (word, source.choice(STATUSES))
    if word == "desk":
        return (word, source.choice(desks))
    return (word, source.random() < 0.5) if word == "mark" else (word,)


def random_rule(source, desks, days):
    tests = [random_test(source, desks, days) for _ in range(source.randint(0, 3))]
    actions = [random_action(source, desks) for _ in range(source.randint(1, 3))]
    return (source.choice(EVENTS), tuple(tests), tuple(actions))


def random_book(source, most_rules=4, most_desks=2, most_days=3):
    """A book that often, but not always, has a rule at every letter."""
    desks = ("front", "back", "do", "if")[: source.randint(1, most_desks)]
    rules = [random_rule(source, desks, source.randint(1, most_days)) for _ in range(source.randint(0, most_rules))]
    if len(rules) < most_rules and source.random() < 0.7:
        rules.insert(source.randint(0, len(rules)), source.choice([STOP, REPLY]))
    return Book(desks, tuple(rules))
