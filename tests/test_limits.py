"""Books of eight rules at four desks with days up to 30: the answers come within seconds."""

import time
import unittest

from lettersdesk.alike import loose, told_apart
from lettersdesk.plays import faults
from lettersdesk.right import acting, fewest_out, first_fault, first_of, idle, is_right, states
from lettersdesk.texts import read_book

from samples import KINDS, LETTER

# Right, with a mark and many days, so that all tickets there can be are gone through.
RIGHT = read_book(
    "front back side rear\n"
    "at letter do desk front, status open\n"
    "at day if days 30, answered do status closed, stop\n"
    "at day if days 27, not marked do desk rear, mark\n"
    "at day if days 20, status waiting, desk side do unmark\n"
    "at day if days 9, desk back do desk side\n"
    "at moved if desk rear do mark\n"
    "at status if status closed, not answered do stop\n"
    "at answer if marked do status waiting"
)
# Endless at most deeds.
ENDLESS = read_book(
    "front back side rear\n"
    "at status if not answered do status waiting, mark, desk side, status closed\n"
    "at status if days 7 do status new, desk back\n"
    "at status if days 20 do status open, unmark\n"
    "at status if days 24, marked do status waiting\n"
    "at moved if days 28 do status new, status open\n"
    "at moved if not desk rear, days 3 do desk rear\n"
    "at moved do status closed, status new\n"
    "at letter if days 30 do stop"
)
# Wrong in many ways, most of them behind many days.
WRONG = read_book(
    "front back side rear\n"
    "at letter do desk front, desk rear\n"
    "at day if not marked, days 30 do status waiting, unmark, reply, mark\n"
    "at replied do reply\n"
    "at day if days 21, not status new do status closed, reply, status new\n"
    "at letter do unmark\n"
    "at moved if days 28 do reply, status new\n"
    "at day if days 28 do reply\n"
    "at status do mark"
)


class LimitsTest(unittest.TestCase):
    def setUp(self):
        self.began = time.perf_counter()

    def tearDown(self):
        self.assertLess(time.perf_counter() - self.began, 10)

    def test_faults_of_all_histories(self):
        self.assertTrue(is_right(RIGHT))
        self.assertIsNone(first_fault(RIGHT))
        for kind in KINDS:
            self.assertIsNone(first_of(RIGHT, kind))
        self.assertIsNone(first_of(WRONG, "unanswered"))
        for found in (first_fault(WRONG), first_of(WRONG, "endless"), first_of(WRONG, "twice")):
            self.assertEqual(len(found), 23)
            self.assertEqual([kind for kind, _ in faults(WRONG, found)], ["endless", "twice"])
        self.assertEqual(first_fault(ENDLESS), [LETTER])
        self.assertEqual(len(first_of(ENDLESS, "endless")), 2)

    def test_rules_that_act(self):
        for book, many_deeds in (
            (RIGHT, [1, 32, 28, 23, 11, 2, 2, 3]),
            (ENDLESS, [2, 9, 22, None, 30, 5, 2, None]),
            (WRONG, [1, None, 23, 23, 1, None, 29, 2]),
        ):
            self.assertEqual(idle(book), [index for index, many in enumerate(many_deeds) if many is None])
            for index, many in enumerate(many_deeds):
                found = acting(book, index)
                self.assertEqual(None if found is None else len(found), many)

    def test_the_same_to_everybody_who_writes(self):
        for book in (RIGHT, ENDLESS, WRONG):
            self.assertIsNone(told_apart(book, book.without(())))
            for index in loose(book):
                self.assertIsNone(told_apart(book, book.exchanged(index)))
        later = read_book("front back side rear\nat day if days 29, answered do status closed")
        self.assertEqual(len(told_apart(later, later.without((0,)))), 31)
        self.assertIn(0, loose(RIGHT))

    def test_fewest_rules_out(self):
        self.assertEqual(fewest_out(RIGHT), ())
        self.assertEqual(fewest_out(WRONG), (1, 3, 5, 6))
        self.assertIsNone(fewest_out(ENDLESS))

    def test_number_of_tickets(self):
        # All that there can be are 4 statuses at 4 desks, answered or not, with 0 to 30 days, marked or not.
        self.assertEqual([states(book) for book in (RIGHT, ENDLESS, WRONG)], [1736, 1984, 1624])


if __name__ == "__main__":
    unittest.main()
