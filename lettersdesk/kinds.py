"""What is a name, a rule, a deed: questions about any value, and the lists of all such values."""

LETTERS = "abcdefghijklmnopqrstuvwxyz"
LONGEST_NAME = 8
MOST_DESKS = 4
MOST_TESTS = 4
MOST_ACTIONS = 4
MOST_DAYS = 30

STATUSES = ("new", "open", "waiting", "closed")
EVENTS = ("letter", "answer", "day", "moved", "status", "replied")

# Each form is a word, followed by the kinds of the values that stand behind it (see `_fits` and `_values`).
TEST_FORMS = (
    ("status", "status", "wanted"),
    ("desk", "desk", "wanted"),
    ("answered", "wanted"),
    ("marked", "wanted"),
    ("days", "days"),
)
ACTION_FORMS = (
    ("status", "status"),
    ("desk", "desk"),
    ("reply",),
    ("mark", "wanted"),
    ("stop",),
)
DEED_FORMS = (
    ("letter",),
    ("answer",),
    ("day",),
    ("hand", "desk"),
    ("set", "status"),
)


def is_whole(value):
    """Whether this is an integer; True and False are none."""
    return isinstance(value, int) and not isinstance(value, bool)


def is_name(value):
    """Whether this is a string of 1 to 8 lowercase letters."""
    if not isinstance(value, str) or not 1 <= len(value) <= LONGEST_NAME:
        return False
    return all([letter in LETTERS for letter in value])


def are_desks(value):
    """Whether this is a tuple of 1 to 4 distinct names."""
    if not isinstance(value, tuple) or not 1 <= len(value) <= MOST_DESKS:
        return False
    return all([is_name(name) for name in value]) and len(set(value)) == len(value)


def is_rule(value, desks):
    """Whether this is a rule with these desks."""
    if not isinstance(value, tuple) or len(value) != 3:
        return False
    event, tests, actions = value
    return (
        is_word(event, EVENTS)
        and isinstance(tests, tuple)
        and len(tests) <= MOST_TESTS
        and all([_has_form(test, TEST_FORMS, desks) for test in tests])
        and isinstance(actions, tuple)
        and 1 <= len(actions) <= MOST_ACTIONS
        and all([_has_form(action, ACTION_FORMS, desks) for action in actions])
    )


def is_deed(value, desks):
    """Whether this is a deed with these desks, or with any desk if `desks` is None."""
    return _has_form(value, DEED_FORMS, desks)


def wrong_deed(deeds, desks):
    """The index of the first item that is not a deed (see `is_deed`), 0 for what is no list, None if all are deeds."""
    if not isinstance(deeds, list):
        return 0
    for index, deed in enumerate(deeds):
        if not is_deed(deed, desks):
            return index
    return None


def is_index(value, many):
    """Whether this is the index of one of so many rules."""
    return is_whole(value) and 0 <= value < many


def is_word(value, words):
    """Whether this is a string, and one of these."""
    # A value of another kind could call itself equal to a string.
    return isinstance(value, str) and value in words


def all_of(forms, desks):
    """The list of all tuples with these desks that have one of the forms, in the order of the forms."""
    found = []
    for word, *kinds in forms:
        made = [(word,)]
        for kind in kinds:
            made = [begun + (value,) for begun in made for value in _values(kind, desks)]
        found.extend(made)
    return found


def _has_form(value, forms, desks):
    """Whether this is a tuple that has one of the forms."""
    if not isinstance(value, tuple) or len(value) == 0 or not isinstance(value[0], str):
        return False
    for word, *kinds in forms:
        if word == value[0] and len(kinds) == len(value) - 1:
            return all([_fits(worth, kind, desks) for worth, kind in zip(value[1:], kinds)])
    return False


def _fits(value, kind, desks):
    """Whether this is a value of the kind that a form names."""
    if kind == "status":
        return is_word(value, STATUSES)
    if kind == "desk":
        return is_name(value) if desks is None else is_word(value, desks)
    if kind == "wanted":
        return isinstance(value, bool)
    return is_whole(value) and 1 <= value <= MOST_DAYS


def _values(kind, desks):
    """The tuple of all values of the kind that a form names."""
    if kind == "status":
        return STATUSES
    if kind == "desk":
        return desks
    if kind == "wanted":
        return (True, False)
    return tuple(range(1, MOST_DAYS + 1))
