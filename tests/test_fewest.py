"""[14]: the fewest rules to leave out."""

import random
import unittest

import reference
from lettersdesk.books import Book
from lettersdesk.right import fewest_out, is_right

from samples import REPLY, STOP, book_of, random_book

CLOSE = (("status", "closed"),)
# Each of these two is wrong beside STOP.
CLOCK = ("day", (("days", 2),), CLOSE)
SWING = ("moved", (), (("desk", "front"), ("desk", "back")))
FINE = ("answer", (), CLOSE)
# Each of these two is right by itself and beside its like, but not beside the other.
MARKS = ("answer", (), (("mark", True),))
CLOSES = ("day", (("marked", True),), CLOSE)


class FewestOutTest(unittest.TestCase):
    def assert_out(self, expected, *rules):
        found = fewest_out(book_of(*rules))
        self.assertEqual(found, expected)
        if expected is not None:
            self.assertIsInstance(found, tuple)
            self.assertTrue(is_right(book_of(*rules).without(found)))

    def test_a_right_book(self):
        self.assert_out((), STOP)
        self.assert_out((), STOP, FINE)

    def test_one_rule(self):
        self.assert_out((1,), STOP, CLOCK)
        self.assert_out((0,), SWING, STOP, FINE)
        self.assert_out((2,), FINE, STOP, CLOCK)

    def test_two_and_three_rules(self):
        self.assert_out((0, 2), SWING, STOP, CLOCK)
        self.assert_out((1, 3), STOP, SWING, FINE, CLOCK)
        self.assert_out((1, 2, 4), STOP, SWING, CLOCK, FINE, CLOCK)

    def test_the_first_of_several(self):
        # Two replies at a letter are one too many, whichever it is.
        self.assert_out((0,), REPLY, REPLY)
        self.assert_out((0, 1), REPLY, REPLY, REPLY)
        self.assert_out((0, 2), REPLY, REPLY, SWING)
        self.assert_out((0, 1), SWING, REPLY, REPLY)

    def test_compared_from_the_first_index_on(self):
        self.assert_out((0, 3), MARKS, CLOSES, CLOSES, MARKS, STOP)
        self.assert_out((0, 3), CLOSES, MARKS, MARKS, CLOSES, STOP)
        self.assert_out((1, 2), STOP, MARKS, MARKS, CLOSES, CLOSES)

    def test_the_fewest_although_others_stand_first(self):
        self.assert_out((2,), MARKS, MARKS, CLOSES, STOP)
        self.assert_out((4,), STOP, CLOSES, CLOSES, CLOSES, MARKS)

    def test_a_rule_that_is_right_only_beside_another(self):
        closes_at_once = ("letter", (), CLOSE)
        self.assert_out((), closes_at_once, REPLY)
        self.assert_out((1,), closes_at_once, REPLY, REPLY)
        self.assert_out((0, 1), closes_at_once, SWING, STOP)

    def test_without_a_rule_at_every_letter(self):
        self.assert_out(None)
        self.assert_out(None, FINE)
        self.assert_out(None, CLOCK, SWING)
        self.assert_out(None, ("letter", (("status", "new", True),), (("stop",),)), FINE)

    def test_the_only_rule_for_letters_is_wrong(self):
        self.assert_out(None, ("letter", (), CLOSE), FINE)

    def test_arguments_by_name(self):
        self.assertEqual(fewest_out(book=Book(("front",), (STOP,))), ())

    def test_books_at_random(self):
        source = random.Random(14)
        for _ in range(100):
            book = random_book(source)
            with self.subTest(desks=book.desks(), rules=book.rules()):
                self.assertEqual(fewest_out(book), reference.fewest(book))


if __name__ == "__main__":
    unittest.main()
