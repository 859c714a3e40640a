"""[13]: whether two books are the same to everybody who writes."""

import itertools
import random
import unittest

import reference
from lettersdesk.alike import loose, told_apart
from lettersdesk.books import Book
from lettersdesk.errors import NoDesks
from lettersdesk.plays import play

from samples import DAY, DESKS, LETTER, REPLY, STOP, all_deeds, book_of, random_book, random_rule

MARK = (("mark", True),)
SEND = (("reply",),)


def opens(status):
    return (("status", status),)


def differ(book, other, deeds):
    """Whether the last report of the two differs in what a writer sees."""
    one, two = play(book, deeds)[-1], play(other, deeds)[-1]
    return (one[1], one[2][0]) != (two[1], two[2][0])


class AlikeCase(unittest.TestCase):
    def assert_apart(self, many, rules, others, desks=DESKS):
        """Just so many deeds tell the two apart, none if None; no fewer do, whichever stands first."""
        book, other = Book(desks, rules), Book(desks, others)
        for one, two in ((book, other), (other, book)):
            found = told_apart(one, two)
            if many is None:
                self.assertIsNone(found)
            else:
                self.assertIsInstance(found, list)
                self.assertEqual(len(found), many)
                self.assertTrue(differ(one, two, found))
        for fewer in range(3 if many is None else min(many - 1, 4)):
            for deeds in itertools.product(all_deeds(desks), repeat=fewer):
                self.assertFalse(differ(book, other, [LETTER, *deeds]))


class ToldApartTest(AlikeCase):
    def test_equal_books(self):
        for rules in ((), (STOP,), (REPLY, ("replied", (), opens("open")), ("day", (("days", 3),), SEND))):
            self.assert_apart(None, rules, rules)

    def test_what_no_history_shows(self):
        # Who acts, the mark and the desk are not seen by who writes.
        self.assert_apart(None, (), (STOP,))
        self.assert_apart(None, (), (("letter", (), MARK), ("answer", (), (("desk", "back"),))))
        never = ("letter", (("answered", True),), SEND)
        self.assert_apart(None, (REPLY,), (never, REPLY))
        self.assert_apart(None, (REPLY,), (REPLY, STOP))

    def test_the_same_in_other_words(self):
        front = ("letter", (("desk", "front", True),), SEND)
        back = ("letter", (("desk", "front", False),), SEND + (("stop",),))
        self.assert_apart(None, (REPLY,), (front, back))
        self.assert_apart(None, (("letter", (), opens("open") + SEND),), (("letter", (), SEND + opens("open")),))
        # Behind a letter there are no days, so the tickets differ in nothing.
        self.assert_apart(None, (("letter", (("days", 5),), SEND),), ())

    def test_events_that_end_in_another_order(self):
        once = (REPLY, ("replied", (), opens("waiting")))
        self.assert_apart(None, once, (("letter", (), SEND + opens("waiting")),))

    def test_a_status(self):
        self.assert_apart(1, (("letter", (), opens("open")),), ())
        self.assert_apart(2, (("answer", (), opens("waiting")),), (("answer", (), opens("open")),))
        self.assert_apart(3, (("answer", (), MARK), ("day", (("marked", True),), opens("closed"))), ())

    def test_the_number_of_replies(self):
        self.assert_apart(1, (REPLY,), ())
        self.assert_apart(1, (REPLY,), (REPLY, REPLY))
        self.assert_apart(2, (("day", (), SEND + SEND),), (("day", (), SEND),))

    def test_a_mark_that_is_seen_later(self):
        seen = ("moved", (("marked", True),), SEND)
        self.assert_apart(3, (("answer", (), MARK), seen), (seen,))
        self.assert_apart(3, (("answer", (), MARK), ("day", (("marked", True),), SEND)), ())

    def test_a_desk_that_is_seen_later(self):
        seen = ("day", (("desk", "back", True),), SEND)
        self.assert_apart(2, (("letter", (), (("desk", "back"),)), seen), (seen,))
        self.assert_apart(2, (("moved", (), SEND),), ())
        self.assert_apart(None, (("moved", (), SEND),), (), desks=("front",))

    def test_behind_so_many_days(self):
        for days in (1, 2, 3, 12, 29):
            sooner, later = [("day", (("days", many),), SEND) for many in (days, days + 1)]
            self.assert_apart(days + 1, (sooner,), (later,))
            self.assert_apart(days + 1, (sooner,), ())
        last = ("day", (("days", 30),), opens("closed"))
        self.assert_apart(31, (last,), ())
        self.assert_apart(31, (STOP, last), (last, ("day", (("days", 30),), opens("open"))))

    def test_days_that_only_one_book_names(self):
        every = ("day", (), opens("open"))
        self.assert_apart(None, (every,), (every, ("day", (("days", 9),), opens("open"))))
        self.assert_apart(10, (every,), (every, ("day", (("days", 9),), opens("closed"))))

    def test_endless_deeds(self):
        swing = ("moved", (), (("desk", "front"), ("desk", "back")))
        self.assert_apart(None, (swing,), ())
        self.assert_apart(1, (REPLY, ("replied", (), SEND)), (REPLY, ("replied", (), SEND + SEND)))
        # The last of the 50 events leaves another status.
        wave = ("status", (), opens("new") + opens("open"))
        self.assert_apart(2, (wave,), ())

    def test_no_desks(self):
        book = book_of(STOP)
        for desks in (("back", "front"), ("front",), ("front", "back", "side"), ("front", "rear")):
            for one, two in ((book, Book(desks, (STOP,))), (Book(desks, ()), book)):
                with self.assertRaises(NoDesks) as caught:
                    told_apart(one, two)
                self.assertIs(caught.exception.__class__, NoDesks)

    def test_arguments_by_name_and_new_lists(self):
        told_apart(other=book_of(), book=book_of(REPLY)).append("more")
        self.assertEqual(told_apart(other=book_of(), book=book_of(REPLY)), [LETTER])
        loose(book=book_of(STOP, STOP)).append("more")
        self.assertEqual(loose(book=book_of(STOP, STOP)), [0])


class LooseTest(unittest.TestCase):
    def test_rules_that_are_never_tried(self):
        # Behind a rule that always stops.
        self.assertEqual(loose(book_of(STOP, REPLY, STOP, REPLY)), [1, 2])

    def test_few_rules(self):
        self.assertEqual(loose(book_of()), [])
        self.assertEqual(loose(book_of(REPLY)), [])

    def test_order_matters(self):
        self.assertEqual(loose(book_of(STOP, REPLY)), [])
        self.assertEqual(loose(book_of(("day", (), opens("open")), ("day", (), opens("closed")))), [])
        self.assertEqual(loose(book_of(("day", (("days", 30),), opens("open")), ("day", (), opens("new")))), [])

    def test_order_does_not_matter(self):
        # Different events; tests that never hold together; what is done is not seen.
        self.assertEqual(loose(book_of(STOP, ("day", (), SEND))), [0])
        front, back = [("day", (("desk", "front", wanted),), opens("open")) for wanted in (True, False)]
        self.assertEqual(loose(book_of(front, back)), [0])
        self.assertEqual(loose(book_of(("letter", (), SEND), ("letter", (), MARK))), [0])

    def test_a_rule_twice_side_by_side(self):
        self.assertEqual(loose(book_of(REPLY, REPLY, REPLY)), [0, 1])
        self.assertEqual(loose(book_of(REPLY, REPLY, STOP, REPLY)), [0])

    def test_each_index_by_itself(self):
        rules = (("day", (), opens("open")), ("day", (), opens("closed")), STOP, REPLY, ("answer", (), SEND))
        self.assertEqual(loose(book_of(*rules)), [1, 3])

    def test_order_that_matters_by_what_other_rules_do(self):
        set_mark, unmark = ("letter", (), MARK), ("letter", (), (("mark", False),))
        self.assertEqual(loose(book_of(set_mark, unmark)), [0])
        self.assertEqual(loose(book_of(set_mark, unmark, ("answer", (("marked", True),), SEND))), [1])


class ReferenceTest(unittest.TestCase):
    """Many small books, held against the slow reading of the document."""

    def test_books_at_random(self):
        source = random.Random(13)
        for _ in range(60):
            book = random_book(source, most_rules=3)
            rules = list(book.rules())
            if rules:
                rules[source.randrange(len(rules))] = random_rule(source, book.desks(), 2)
            other = Book(book.desks(), tuple(rules))
            with self.subTest(rules=book.rules(), others=other.rules()):
                many = reference.apart(book, other)
                for one, two in ((book, other), (other, book)):
                    found = told_apart(one, two)
                    self.assertEqual(None if found is None else len(found), many)
                    if found is not None:
                        self.assertTrue(differ(one, two, found))
                pairs = range(len(book) - 1)
                alike = [index for index in pairs if reference.apart(book, book.exchanged(index)) is None]
                self.assertEqual(loose(book), alike)


if __name__ == "__main__":
    unittest.main()
