"""[10]: what goes wrong in a history."""

import unittest

from lettersdesk.books import Book
from lettersdesk.plays import faults, play

from samples import ANSWER, DAY, DESKS, LETTER, REPLY, STOP

CLOSE = (("status", "closed"),)


def wrong(rules, *deeds):
    return faults(Book(DESKS, rules), list(deeds))


class UntouchedTest(unittest.TestCase):
    def test_a_letter_at_which_no_rule_acts(self):
        self.assertEqual(wrong((), LETTER), [("untouched", 0)])
        self.assertEqual(wrong((), LETTER, DAY, LETTER), [("untouched", 0), ("untouched", 2)])
        self.assertEqual(wrong((("letter", (("marked", True),), CLOSE),), LETTER), [("untouched", 0)])
        self.assertEqual(wrong((("day", (), (("stop",),)),), LETTER, DAY), [("untouched", 0)])

    def test_a_rule_that_only_stops_has_acted(self):
        self.assertEqual(wrong((STOP,), LETTER, LETTER), [])

    def test_a_rule_that_changes_nothing_has_acted(self):
        self.assertEqual(wrong((("letter", (), (("status", "new"), ("mark", False))),), LETTER), [])

    def test_deeds_that_are_no_letters(self):
        deeds = [ANSWER, DAY, ("hand", "back"), ("hand", "back"), ("set", "open"), ("set", "closed")]
        self.assertEqual(wrong((STOP,), LETTER, *deeds), [])

    def test_a_desk_may_be_called_letter(self):
        book = Book(("letter", "day"), (("letter", (), (("desk", "day"),)),))
        self.assertEqual(faults(book, [LETTER, ("hand", "letter"), ("hand", "day")]), [])

    def test_no_deeds(self):
        self.assertEqual(wrong(()), [])


class UnansweredTest(unittest.TestCase):
    def test_a_ticket_that_a_rule_closes_unanswered(self):
        self.assertEqual(wrong((("letter", (), CLOSE),), LETTER), [("unanswered", 0)])
        self.assertEqual(wrong((STOP, ("day", (("days", 2),), CLOSE)), LETTER, DAY, DAY), [("unanswered", 2)])

    def test_closed_by_a_rule_that_follows_another(self):
        rules = (STOP, ("moved", (), (("mark", True), ("status", "open"))), ("status", (), CLOSE))
        self.assertEqual(wrong(rules, LETTER, ("hand", "back")), [("unanswered", 1)])

    def test_people_close(self):
        self.assertEqual(wrong((STOP,), LETTER, ("set", "closed"), DAY), [])
        rules = (STOP, ("status", (), (("mark", True),)))
        self.assertEqual(wrong(rules, LETTER, ("set", "closed")), [])

    def test_a_rule_closes_what_is_closed(self):
        rules = (STOP, ("status", (), CLOSE), ("day", (), CLOSE))
        self.assertEqual(wrong(rules, LETTER, ("set", "closed"), DAY), [])

    def test_only_the_deed_in_which_it_is_closed(self):
        rules = (STOP, ("day", (), CLOSE))
        self.assertEqual(wrong(rules, LETTER, DAY, DAY, LETTER, DAY), [("unanswered", 1)])

    def test_people_close_what_a_rule_closed_and_opened(self):
        rules = (STOP, ("day", (), CLOSE + (("status", "open"),)))
        self.assertEqual(wrong(rules, LETTER, DAY, ("set", "closed")), [])

    def test_open_again_behind_the_deed(self):
        for status in ("new", "open", "waiting"):
            self.assertEqual(wrong((("letter", (), CLOSE + (("status", status),)),), LETTER), [])
        rules = (("letter", (), CLOSE), ("status", (("status", "closed", True),), (("status", "open"),)))
        self.assertEqual(wrong(rules, LETTER), [])

    def test_opened_and_closed_again_by_rules(self):
        rules = (STOP, ("status", (), (("status", "open"),) + CLOSE + (("stop",),)))
        rules_once = (STOP, ("status", (("marked", False),), (("status", "open"), ("mark", True)) + CLOSE))
        self.assertEqual(wrong(rules, LETTER, ("set", "closed")), [("endless", 1), ("unanswered", 1)])
        self.assertEqual(wrong(rules_once, LETTER, ("set", "closed")), [("unanswered", 1)])

    def test_closed_and_opened_and_closed_again(self):
        actions = CLOSE + (("status", "open"),) + CLOSE
        self.assertEqual(wrong((("letter", (), actions),), LETTER), [("unanswered", 0)])

    def test_answered(self):
        self.assertEqual(wrong((STOP, ("day", (), CLOSE)), LETTER, ANSWER, DAY), [])
        self.assertEqual(wrong((STOP, ("answer", (), CLOSE)), LETTER, ANSWER), [])

    def test_answered_in_the_same_deed(self):
        reply = (("reply",),)
        self.assertEqual(wrong((("letter", (), reply + CLOSE),), LETTER), [])
        self.assertEqual(wrong((("letter", (), CLOSE + reply),), LETTER), [])
        self.assertEqual(wrong((("letter", (), CLOSE), ("status", (), reply)), LETTER), [])

    def test_a_new_letter_to_a_ticket_that_was_answered(self):
        rules = (("letter", (("answered", False), ("status", "open", True)), CLOSE), STOP)
        self.assertEqual(wrong(rules, LETTER, ("set", "open"), ANSWER, LETTER), [("unanswered", 3)])


class TwiceTest(unittest.TestCase):
    def test_a_reply_to_what_is_answered(self):
        rules = (STOP, ("day", (), (("reply",),)))
        self.assertEqual(wrong(rules, LETTER, DAY), [])
        self.assertEqual(wrong(rules, LETTER, DAY, DAY), [("twice", 2)])
        self.assertEqual(wrong(rules, LETTER, ANSWER, DAY, DAY), [("twice", 2), ("twice", 3)])

    def test_two_replies_in_a_deed(self):
        self.assertEqual(wrong((("letter", (), (("reply",), ("reply",))),), LETTER), [("twice", 0)])
        self.assertEqual(wrong((("letter", (), (("reply",),) * 4),), LETTER), [("twice", 0)])
        self.assertEqual(wrong((REPLY, REPLY), LETTER), [("twice", 0)])
        self.assertEqual(wrong((REPLY, ("replied", (("marked", True),), (("reply",),))), LETTER), [])

    def test_a_reply_behind_a_new_letter(self):
        self.assertEqual(wrong((REPLY,), LETTER, LETTER, LETTER), [])
        self.assertEqual(wrong((REPLY,), LETTER, ANSWER, LETTER), [])

    def test_a_reply_at_an_answer(self):
        self.assertEqual(wrong((STOP, ("answer", (), (("reply",),))), LETTER, ANSWER), [("twice", 1)])

    def test_people_may_answer_twice(self):
        self.assertEqual(wrong((REPLY,), LETTER, ANSWER, ANSWER), [])


class EndlessTest(unittest.TestCase):
    def test_endless(self):
        rules = (STOP, ("moved", (), (("desk", "front"), ("desk", "back"))))
        self.assertEqual(wrong(rules, LETTER, ("hand", "back"), DAY), [("endless", 1)])
        self.assertEqual(wrong(rules, LETTER, ("hand", "front")), [])

    def test_an_endless_letter_is_touched(self):
        rules = (("letter", (), (("desk", "back"),)), ("moved", (), (("desk", "front"), ("desk", "back"))))
        self.assertEqual(wrong(rules, LETTER), [("endless", 0)])

    def test_an_endless_deed_that_stays_closed(self):
        rules = (STOP, ("status", (), (("status", "open"), ("status", "closed"))))
        self.assertEqual(wrong(rules, LETTER, ("set", "waiting")), [("endless", 1), ("unanswered", 1)])
        opens = (STOP, ("status", (), (("status", "closed"), ("status", "open"))))
        self.assertEqual(wrong(opens, LETTER, ("set", "waiting")), [("endless", 1)])


class OrderTest(unittest.TestCase):
    def test_the_order_within_a_deed(self):
        # No deed has more than two of the four: a ticket that a reply went out for stays answered to its end.
        rules = (STOP, ("answer", (), (("reply",), ("mark", True))), ("replied", (), (("reply",),)))
        self.assertEqual(wrong(rules, LETTER, ANSWER), [("endless", 1), ("twice", 1)])
        rules = (("letter", (), (("reply",), ("status", "closed"))), ("replied", (), (("reply",),)))
        self.assertEqual(wrong(rules, LETTER), [("endless", 0), ("twice", 0)])
        rules = (
            ("letter", (), (("status", "closed"), ("desk", "back"))),
            ("moved", (), (("desk", "front"), ("desk", "back"))),
        )
        self.assertEqual(wrong(rules, LETTER), [("endless", 0), ("unanswered", 0)])

    def test_the_order_of_the_deeds(self):
        rules = (
            ("day", (), (("reply",),)),
            ("status", (("status", "open", True),), (("status", "closed"),)),
            ("moved", (), (("desk", "front"), ("desk", "back"))),
        )
        deeds = [LETTER, ("set", "open"), ("hand", "back"), DAY, DAY, LETTER]
        expected = [("untouched", 0), ("unanswered", 1), ("endless", 2), ("twice", 4), ("untouched", 5)]
        self.assertEqual(wrong(rules, *deeds), expected)

    def test_items_are_tuples_of_a_string_and_an_index(self):
        for item in wrong((), LETTER, DAY, LETTER):
            self.assertIsInstance(item, tuple)
            self.assertIsInstance(item[0], str)
            self.assertIsInstance(item[1], int)

    def test_endless_in_faults_is_endless_in_reports(self):
        rules = (STOP, ("moved", (("answered", False),), (("desk", "front"), ("desk", "back"))))
        deeds = [LETTER, ("hand", "back"), ANSWER, ("hand", "front"), LETTER, ("hand", "back")]
        told = [index for index, report in enumerate(play(Book(DESKS, rules), deeds)) if report[3]]
        self.assertEqual(told, [1, 5])
        self.assertEqual(faults(Book(DESKS, rules), deeds), [("endless", 1), ("endless", 5)])


if __name__ == "__main__":
    unittest.main()
