"""[11], [12] and [15]: what holds for all histories by one book."""

import itertools
import random
import unittest

import reference
from lettersdesk.books import Book
from lettersdesk.errors import NoKind, NoRule
from lettersdesk.plays import faults, play
from lettersdesk.right import acting, first_fault, first_of, idle, is_right, states

from samples import ANSWER, DAY, KINDS, LETTER, REPLY, STOP, all_deeds, book_of, odd_values, random_book

CLOSE = (("status", "closed"),)
MARK = (("mark", True),)
SWING = (("desk", "front"), ("desk", "back"))


def kinds_of(book, deeds):
    return [kind for kind, _ in faults(book, deeds)]


def acted_in(book, deeds):
    return [index for report in play(book, deeds) for index in report[0]]


def short_histories(book, most):
    """All lists of at most so many deeds that can be played."""
    yield []
    for many in range(most):
        for deeds in itertools.product(all_deeds(book.desks()), repeat=many):
            yield [LETTER, *deeds]


class FirstOfTest(unittest.TestCase):
    """Of each kind books that have such a fault, behind just so many deeds, and books that have none."""

    def assert_first(self, kind, many, *rules):
        book = book_of(*rules)
        found = first_of(book, kind)
        if many is None:
            self.assertIsNone(found)
        else:
            self.assertIsInstance(found, list)
            self.assertEqual(len(found), many)
            self.assertIn(kind, kinds_of(book, found))
        for deeds in short_histories(book, 3 if many is None else min(many - 1, 4)):
            self.assertNotIn(kind, kinds_of(book, deeds))

    def test_endless(self):
        note = ("answer", (), MARK)
        self.assert_first("endless", 1, REPLY, ("replied", (), (("reply",),)))
        self.assert_first("endless", 2, STOP, ("moved", (), SWING))
        self.assert_first("endless", 3, STOP, note, ("moved", (("marked", True),), SWING))
        self.assert_first("endless", 4, STOP, note, ("moved", (("marked", True), ("days", 1)), SWING))
        self.assert_first("endless", None, STOP, ("moved", (("desk", "back", True),), (("desk", "front"),)))
        self.assert_first("endless", None)

    def test_unanswered(self):
        self.assert_first("unanswered", 1, ("letter", (), CLOSE))
        self.assert_first("unanswered", 2, STOP, ("moved", (), CLOSE))
        self.assert_first("unanswered", 3, ("letter", (("status", "open", True),), CLOSE), STOP)
        self.assert_first("unanswered", 4, STOP, ("day", (("days", 3),), CLOSE))
        self.assert_first("unanswered", None, STOP, ("day", (("days", 3), ("answered", True)), CLOSE))
        self.assert_first("unanswered", None, ("letter", (), CLOSE + (("reply",),)))
        self.assert_first("unanswered", None)

    def test_twice(self):
        self.assert_first("twice", 1, REPLY, REPLY)
        self.assert_first("twice", 2, STOP, ("answer", (), (("reply",),)))
        self.assert_first("twice", 2, REPLY, ("day", (), (("reply",),)))
        self.assert_first("twice", 3, STOP, ("day", (), (("reply",),)))
        self.assert_first("twice", 4, STOP, ("day", (("days", 2),), (("reply",),)))
        self.assert_first("twice", None, REPLY, ("day", (("answered", False),), (("reply",),)))
        self.assert_first("twice", None)

    def test_untouched(self):
        marked, unmarked = [("letter", (("marked", wanted),), (("stop",),)) for wanted in (True, False)]
        self.assert_first("untouched", 1)
        self.assert_first("untouched", 1, marked)
        self.assert_first("untouched", 2, ("letter", (("marked", False),), MARK))
        self.assert_first("untouched", 3, ("letter", (("status", "closed", False),), (("stop",),)))
        self.assert_first("untouched", 4, unmarked, ("day", (("days", 2),), MARK))
        self.assert_first("untouched", None, marked, unmarked)
        self.assert_first("untouched", None, STOP)

    def test_closings_by_the_clock(self):
        for days in range(1, 31):
            book = book_of(STOP, ("day", (("days", days),), CLOSE))
            found = [LETTER] + [DAY] * days
            # Any other deed would only bring the closing later, or not at all.
            self.assertEqual(first_of(book, "unanswered"), found)
            self.assertEqual(first_fault(book), found)
            self.assertEqual(acting(book, 1), found)

    def test_two_clocks_one_after_the_other(self):
        first = ("day", (("days", 30), ("answered", False)), MARK + (("reply",),))
        second = ("day", (("days", 30), ("marked", True)), (("reply",),))
        self.assertEqual(first_of(book_of(STOP, first, second), "twice"), [LETTER] + [DAY] * 60)

    def test_no_kind(self):
        for book in (book_of(), book_of(STOP)):
            for kind in ["", "Endless", "endless ", "letter", 0, 1, (), ("endless",), ["twice"]] + odd_values():
                with self.assertRaises(NoKind) as caught:
                    first_of(book, kind)
                self.assertIs(caught.exception.__class__, NoKind)


class RightTest(unittest.TestCase):
    def test_right_books(self):
        for rules in ((STOP,), (REPLY,), (STOP, ("answer", (), CLOSE)), (REPLY, ("replied", (), CLOSE))):
            self.assertIsNone(first_fault(book_of(*rules)))
            self.assertIs(is_right(book_of(*rules)), True)

    def test_books_that_are_not_right(self):
        for rules in ((), (REPLY, REPLY), (STOP, ("day", (("days", 30),), CLOSE))):
            self.assertIsInstance(first_fault(book_of(*rules)), list)
            self.assertIs(is_right(book_of(*rules)), False)

    def test_a_book_without_rules(self):
        for desks in (("front",), ("front", "back", "do", "if")):
            book = Book(desks, ())
            self.assertEqual(first_fault(book), [LETTER])
            self.assertEqual(first_of(book, "untouched"), [LETTER])

    def test_as_short_as_the_shortest_of_the_four(self):
        clock = ("day", (("days", 4),), CLOSE)
        again = ("day", (("days", 2),), (("reply",),))
        swing = ("moved", (), SWING)
        leave = ("letter", (("status", "closed", False),), (("stop",),))
        for rules, many in (
            ((STOP, clock), 5),
            ((STOP, again), 4),
            ((STOP, clock, swing), 2),
            ((leave, clock, again), 3),
            ((REPLY, again), 3),
        ):
            book = book_of(*rules)
            self.assertEqual(len(first_fault(book)), many)
            found = [first_of(book, kind) for kind in KINDS]
            self.assertEqual(min(len(deeds) for deeds in found if deeds is not None), many)

    def test_deeds_that_can_be_played_and_changed(self):
        book = book_of(REPLY, ("day", (("days", 2),), (("reply",),)))
        first = first_fault(book)
        self.assertEqual(first[0], LETTER)
        first.clear()
        self.assertEqual(kinds_of(book, first_fault(book)), ["twice"])

    def test_arguments_by_name(self):
        book = book_of(STOP)
        self.assertEqual(first_of(kind="untouched", book=book_of()), [LETTER])
        self.assertEqual(acting(index=0, book=book), [LETTER])
        self.assertIsNone(first_fault(book=book))
        self.assertIs(is_right(book=book), True)
        self.assertEqual(idle(book=book), [])
        self.assertEqual(states(book=book), 16)


class ActingTest(unittest.TestCase):
    NEVER = ("letter", (("answered", True),), (("stop",),))

    def assert_acting(self, book, many_deeds):
        """Each rule acts behind just so many deeds, or in no history."""
        self.assertEqual(len(many_deeds), len(book))
        for index, many in enumerate(many_deeds):
            found = acting(book, index)
            if many is None:
                self.assertIsNone(found)
            else:
                self.assertEqual(len(found), many)
                self.assertIn(index, acted_in(book, found))
            for deeds in short_histories(book, 3 if many is None else min(many - 1, 4)):
                self.assertNotIn(index, acted_in(book, deeds))
        self.assertEqual(idle(book), [index for index, many in enumerate(many_deeds) if many is None])

    def test_rules_that_act_at_once_or_later(self):
        later = ("day", (("marked", True), ("days", 2)), (("reply",),))
        self.assert_acting(book_of(STOP, ("answer", (), MARK), later, ("replied", (), MARK)), [1, 2, 4, 4])
        self.assert_acting(book_of(REPLY, ("replied", (), CLOSE), ("status", (), MARK)), [1, 1, 1])

    def test_tests_that_never_hold_together(self):
        for tests in (
            (("answered", False), ("answered", True)),
            (("status", "new", True), ("status", "open", True)),
            (("desk", "back", False), ("desk", "front", False)),
            (("marked", False), ("marked", True), ("days", 1)),
        ):
            self.assert_acting(book_of(("day", tests, (("stop",),)), ("day", tests[:1], MARK)), [None, 2])

    def test_tests_that_never_hold_at_this_event(self):
        # At a letter nothing is answered, and there are no days.
        self.assert_acting(book_of(self.NEVER, ("letter", (("days", 1),), (("stop",),)), STOP), [None, None, 1])

    def test_a_rule_behind_one_that_stops(self):
        self.assert_acting(book_of(STOP, STOP), [1, None])
        self.assert_acting(book_of(("letter", (("marked", False),), (("stop",),)), REPLY), [1, None])

    def test_moved_where_there_is_one_desk(self):
        rules = (("moved", (), (("stop",),)), ("letter", (), (("desk", "front"),)))
        self.assertEqual(idle(Book(("front",), rules)), [0])
        self.assertIsNone(acting(Book(("front",), rules), 0))
        self.assertEqual(acting(Book(("front",), rules), 1), [LETTER])
        self.assertEqual(idle(Book(("front", "back"), rules)), [])
        self.assertEqual(acting(Book(("front", "back"), rules), 0), [LETTER, ("hand", "back")])

    def test_replied_where_no_rule_sends_a_reply(self):
        self.assert_acting(book_of(STOP, ("replied", (), MARK), ("answer", (), MARK)), [1, None, 2])

    def test_a_rule_that_acts_only_in_an_endless_deed(self):
        rules = (STOP, ("moved", (("days", 2),), SWING))
        self.assertEqual(len(acting(book_of(*rules), 1)), 4)

    def test_a_book_without_rules(self):
        self.assertEqual(idle(book_of()), [])

    def test_lists_are_new_ones(self):
        book = book_of(STOP, STOP)
        acting(book, 0).append("more")
        idle(book).append("more")
        self.assertEqual(acting(book, 0), [LETTER])
        self.assertEqual(idle(book), [1])

    def test_no_rule(self):
        book = book_of(STOP, self.NEVER)
        for index in [-1, -2, 2, 8, "0", "", (), (0,), [0], 0.0] + odd_values():
            with self.assertRaises(NoRule) as caught:
                acting(book, index)
            self.assertIs(caught.exception.index, index)
        with self.assertRaises(NoRule) as caught:
            acting(book_of(), 0)
        self.assertEqual(caught.exception.index, 0)


class StatesTest(unittest.TestCase):
    def test_without_days(self):
        # Four statuses at each desk, answered or not; no rule marks.
        for desks in (("front",), ("front", "back"), ("front", "back", "do", "if")):
            self.assertEqual(states(Book(desks, ())), 4 * len(desks) * 2)
            self.assertEqual(states(Book(desks, (STOP,))), 4 * len(desks) * 2)

    def test_with_days(self):
        for days in (1, 2, 3, 17, 30):
            for desks in (("front",), ("front", "back")):
                idle_rule = ("day", (("days", days), ("marked", True)), (("mark", False),))
                self.assertEqual(states(Book(desks, (idle_rule,))), 4 * len(desks) * 2 * (days + 1))

    def test_the_greatest_number_counts(self):
        rules = (("day", (("days", 7), ("days", 3)), (("stop",),)), ("day", (("days", 5),), (("stop",),)))
        self.assertEqual(states(Book(("front",), rules)), 4 * 2 * 8)
        self.assertEqual(states(Book(("front",), rules[1:])), 4 * 2 * 6)

    def test_with_a_mark(self):
        rule = ("answer", (), MARK)
        # Only what was answered once is marked; a new letter may follow.
        self.assertEqual(states(Book(("front",), (rule,))), 4 * 2 + 4)
        both = (rule, ("status", (), (("mark", False),)))
        self.assertEqual(states(Book(("front",), both)), 4 * 2 * 2)

    def test_tickets_that_rules_leave_at_once(self):
        # A ticket is never closed behind a deed, and never waits at the second desk.
        rules = (
            ("status", (("status", "closed", True),), (("status", "open"),)),
            ("moved", (("desk", "back", True), ("status", "waiting", True)), (("desk", "front"),)),
            ("status", (("desk", "back", True), ("status", "waiting", True)), (("desk", "front"),)),
        )
        self.assertEqual(states(book_of(*rules)), (3 * 2 - 1) * 2)

    def test_behind_the_first_letter(self):
        # All tickets are answered by then, and there is a day only behind a day.
        self.assertEqual(states(Book(("front",), (REPLY,))), 4)
        self.assertEqual(states(Book(("front",), (REPLY, ("day", (("days", 1),), (("stop",),))))), 8)

    def test_the_number_is_an_integer(self):
        self.assertIs(states(book_of()).__class__, int)


class ReferenceTest(unittest.TestCase):
    """Many small books, held against the slow reading of the document."""

    def test_books_at_random(self):
        source = random.Random(11)
        for _ in range(150):
            book = random_book(source)
            least, acts, many = reference.explore(book)
            with self.subTest(desks=book.desks(), rules=book.rules()):
                self.assertEqual(states(book), many)
                self.assertEqual(idle(book), [index for index in range(len(book)) if index not in acts])
                self.assertIs(is_right(book), not least)
                for kind in KINDS:
                    self.check(first_of(book, kind), least.get(kind))
                    if kind in least:
                        self.assertIn(kind, kinds_of(book, first_of(book, kind)))
                self.check(first_fault(book), min(least.values(), default=None))
                if least:
                    self.assertNotEqual(faults(book, first_fault(book)), [])
                for index in range(len(book)):
                    self.check(acting(book, index), acts.get(index))
                    if index in acts:
                        self.assertIn(index, acted_in(book, acting(book, index)))

    def check(self, deeds, many):
        if many is None:
            self.assertIsNone(deeds)
        else:
            self.assertEqual(len(deeds), many)


if __name__ == "__main__":
    unittest.main()
