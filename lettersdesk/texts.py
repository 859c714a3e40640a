"""Books and deeds as texts."""

from lettersdesk.books import MOST_RULES, Book
from lettersdesk.errors import NoDeed, NoText
from lettersdesk.kinds import ACTION_FORMS, EVENTS, MOST_ACTIONS, MOST_TESTS, TEST_FORMS, all_of, are_desks, wrong_deed


def book_text(book):
    """The text of a book: a line with the desks, and a line for each rule."""
    lines = [" ".join(book.desks())]
    lines.extend([_rule_text(rule) for rule in book.rules()])
    return "\n".join(lines)


def read_book(text):
    """The book that a text writes."""
    if not isinstance(text, str):
        raise NoText(0)
    lines = text.split("\n")
    desks = tuple(lines[0].split(" "))
    if not are_desks(desks):
        raise NoText(0)
    tests = {_test_text(test): test for test in all_of(TEST_FORMS, desks)}
    actions = {_action_text(action): action for action in all_of(ACTION_FORMS, desks)}
    rules = []
    for index, line in enumerate(lines[1:], start=1):
        rule = _read_rule(line, tests, actions)
        if rule is None or index > MOST_RULES:
            raise NoText(index)
        rules.append(rule)
    return Book(desks, tuple(rules))


def deeds_text(deeds):
    """The text of a list of deeds: a line for each."""
    wrong = wrong_deed(deeds, None)
    if wrong is not None:
        raise NoDeed(wrong)
    return "\n".join([" ".join(deed) for deed in deeds])


def read_deeds(text):
    """The list of deeds that a text writes."""
    if not isinstance(text, str):
        raise NoText(0)
    if text == "":
        return []
    # A deed consists of strings, and its line is just these with a space between them.
    deeds = [tuple(line.split(" ")) for line in text.split("\n")]
    wrong = wrong_deed(deeds, None)
    if wrong is not None:
        raise NoText(wrong)
    return deeds


def _rule_text(rule):
    event, tests, actions = rule
    done = ", ".join([_action_text(action) for action in actions])
    if len(tests) == 0:
        return f"at {event} do {done}"
    asked = ", ".join([_test_text(test) for test in tests])
    return f"at {event} if {asked} do {done}"


def _test_text(test):
    if test[0] == "days":
        return f"days {test[1]}"
    text = " ".join(test[:-1])
    return text if test[-1] else "not " + text


def _action_text(action):
    if action[0] == "mark":
        return "mark" if action[1] else "unmark"
    return " ".join(action)


def _read_rule(line, tests, actions):
    """The rule that a line writes, or None; with all tests and all actions by their texts."""
    words = line.split(" ")
    # A desk may be called "do", so any of these may be the one ahead of the actions; at most one of them fits.
    for at in range(2, len(words)):
        if words[at] == "do" and words[0] == "at" and words[1] in EVENTS:
            asked = _read_tests(words[2:at], tests)
            done = _read_items(words[at + 1:], actions, MOST_ACTIONS)
            if asked is not None and done is not None:
                return (words[1], asked, done)
    return None


def _read_tests(words, tests):
    """The tuple of the tests that these words write, "if" ahead of them, or None."""
    if len(words) == 0:
        return ()
    if words[0] != "if":
        return None
    return _read_items(words[1:], tests, MOST_TESTS)


def _read_items(words, known, most):
    """The tuple of one or several tests or actions, at most so many, that these words write, or None."""
    texts = " ".join(words).split(", ")
    if len(texts) > most or not all([text in known for text in texts]):
        return None
    return tuple([known[text] for text in texts])
