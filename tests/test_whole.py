"""[2] and [3] for the whole program: arguments stay, lists are new, errors come in their order and change nothing."""

import copy
import pathlib
import subprocess
import sys
import unittest

from lettersdesk import errors
from lettersdesk.alike import loose, told_apart
from lettersdesk.books import Book
from lettersdesk.live import Desk
from lettersdesk.plays import faults, play
from lettersdesk.right import acting, fewest_out, first_fault, first_of, idle, is_right, states
from lettersdesk.texts import book_text, deeds_text, read_book, read_deeds

from samples import ANSWER, DAY, DESKS, LETTER, REPLY, STOP, hand, put

RULES = (REPLY, ("replied", (), (("status", "open"),)), ("day", (("days", 2),), (("reply",),)), STOP, STOP)
DEEDS = [LETTER, DAY, hand("back"), DAY, put("waiting"), ANSWER, DAY, DAY, LETTER]
CALLS = [
    (play, [DEEDS]),
    (faults, [DEEDS]),
    (first_fault, []),
    (first_of, ["twice"]),
    (is_right, []),
    (idle, []),
    (acting, [2]),
    (fewest_out, []),
    (states, []),
    (told_apart, [Book(DESKS, (REPLY,))]),
    (loose, []),
    (book_text, []),
]


def lists_in(value):
    """All lists within a value, itself included."""
    inner = [found for item in value for found in lists_in(item)] if isinstance(value, (list, tuple)) else []
    return inner + [value] if isinstance(value, list) else inner


class WholeTest(unittest.TestCase):
    def test_the_same_again_in_new_lists(self):
        book = Book(DESKS, RULES)
        for called, args in CALLS:
            passed = copy.deepcopy([arg for arg in args if not isinstance(arg, Book)])
            one, two = called(book, *args), called(book, *args)
            self.assertEqual(one, two)
            lists = lists_in(one) + lists_in(two) + lists_in(args)
            self.assertEqual(len({id(found) for found in lists}), len(lists), called.__name__)
            for found in lists_in(one):
                found.append("changed by the caller")
            self.assertEqual(called(book, *args), two)
            self.assertEqual([arg for arg in args if not isinstance(arg, Book)], passed)
            self.assertEqual((book.desks(), book.rules()), (DESKS, RULES))

    def test_a_book_shared_by_all(self):
        book = Book(DESKS, RULES)
        desk = Desk(book)
        desk.do("ann", LETTER)
        for called, args in CALLS:
            called(book, *args)
        desk.day()
        desk.book = Book(DESKS, ())
        self.assertEqual(book, Book(DESKS, RULES))

    def test_what_is_returned_may_be_passed_on(self):
        book = Book(DESKS, RULES)
        found = first_of(book, "twice")
        self.assertEqual(play(book, read_deeds(deeds_text(found))), play(book, found))
        self.assertTrue(is_right(read_book(book_text(book)).without(fewest_out(book))))

    def test_each_error_of_the_document_is_raised_somewhere(self):
        book, desk = Book(DESKS, RULES), Desk(Book(DESKS, ()))
        for error, called, args in (
            (errors.NoDesks, Book, ["front", ()]),
            (errors.NoDesks, told_apart, [book, Book(("front",), ())]),
            (errors.NoDesks, desk.change, [Book(("front",), ())]),
            (errors.NoRule, acting, [book, 9]),
            (errors.NoKind, first_of, [book, "wrong"]),
            (errors.NoDeed, play, [book, "wrong"]),
            (errors.NoTicket, faults, [book, [DAY]]),
            (errors.NoPerson, desk.do, ["Ann", LETTER]),
            (errors.NoPerson, desk.ticket, ["ann"]),
            (errors.NothingToUndo, desk.undo, []),
            (errors.NoDesk, desk.at, ["side"]),
            (errors.NoText, read_book, [""]),
            (errors.NoText, read_deeds, ["wrong"]),
        ):
            with self.assertRaises(errors.DeskError) as caught:
                called(*args)
            self.assertIs(caught.exception.__class__, error)

    def test_errors_in_the_order_of_the_arguments(self):
        desk = Desk(Book(DESKS, ()))
        for error, called, args in (
            (errors.NoDesks, Book, ["wrong", "wrong"]),
            (errors.NoPerson, desk.do, ["", "wrong"]),
            (errors.NoDeed, desk.do, ["ann", "wrong"]),
            (errors.NoTicket, desk.do, ["ann", DAY]),
            (errors.NoDeed, play, [Book(DESKS, ()), [DAY, "wrong"]]),
        ):
            with self.assertRaises(error):
                called(*args)

    def test_the_same_under_another_hash_of_strings(self):
        """Nothing depends on the order of a set."""
        program = (
            "import test_whole as t\n"
            "book = t.Book(t.DESKS, t.RULES)\n"
            "print([called(book, *args) for called, args in t.CALLS if called is not t.told_apart])\n"
        )
        here = pathlib.Path(__file__).resolve().parent
        told = set()
        for seed in ("0", "1", "2"):
            ran = subprocess.run(
                [sys.executable, "-c", program],
                env={"PYTHONHASHSEED": seed, "PYTHONPATH": f"{here}:{here.parent}", "PYTHONDONTWRITEBYTECODE": "1"},
                capture_output=True,
                text=True,
                check=True,
            )
            told.add(ran.stdout)
        self.assertEqual(len(told), 1)


if __name__ == "__main__":
    unittest.main()
