"""[7] to [9]: deeds, events and rules, and the reports of `play`."""

import unittest

from lettersdesk.books import Book
from lettersdesk.errors import NoDeed, NoTicket
from lettersdesk.plays import faults, play

from samples import ANSWER, DAY, DESKS, LETTER, REPLY, STOP, book_of, hand, odd_values, put

NOTED = (("mark", True),)


def last(book, *deeds):
    return play(book, list(deeds))[-1]


def ticket(book, *deeds):
    return last(book, *deeds)[2]


def acted(book, *deeds):
    return last(book, *deeds)[0]


class DeedsTest(unittest.TestCase):
    """What deeds do without any rule."""

    def setUp(self):
        self.book = book_of()

    def test_no_deeds(self):
        self.assertEqual(play(self.book, []), [])

    def test_first_letter(self):
        self.assertEqual(play(self.book, [LETTER]), [([], 0, ("new", "front", False, 0, False), False)])
        self.assertEqual(ticket(Book(("back", "front"), ()), LETTER), ("new", "back", False, 0, False))
        self.assertEqual(ticket(Book(("side",), ()), LETTER), ("new", "side", False, 0, False))

    def test_later_letter_keeps_status_desk_and_mark(self):
        book = book_of(("status", (), NOTED))
        told = ticket(book, LETTER, put("waiting"), hand("back"), ANSWER, DAY, LETTER)
        self.assertEqual(told, ("waiting", "back", False, 0, True))

    def test_answer(self):
        self.assertEqual(ticket(self.book, LETTER, DAY, DAY, ANSWER), ("new", "front", True, 0, False))
        self.assertEqual(ticket(self.book, LETTER, ANSWER, ANSWER), ("new", "front", True, 0, False))

    def test_days_go_on_without_end(self):
        for many in (1, 2, 30, 31, 199):
            self.assertEqual(ticket(self.book, LETTER, *[DAY] * many), ("new", "front", False, many, False))
        self.assertEqual(ticket(self.book, LETTER, ANSWER, DAY), ("new", "front", True, 1, False))
        self.assertEqual(ticket(self.book, LETTER, DAY, LETTER, DAY), ("new", "front", False, 1, False))

    def test_hand_and_set_change_nothing_else(self):
        told = ticket(self.book, LETTER, ANSWER, DAY, hand("back"))
        self.assertEqual(told, ("new", "back", True, 1, False))
        for status in ("new", "open", "waiting", "closed"):
            told = ticket(self.book, LETTER, ANSWER, DAY, put(status))
            self.assertEqual(told, (status, "front", True, 1, False))

    def test_a_report_for_each_deed(self):
        reports = play(self.book, [LETTER, DAY, put("open"), hand("back")])
        self.assertEqual(
            reports,
            [
                ([], 0, ("new", "front", False, 0, False), False),
                ([], 0, ("new", "front", False, 1, False), False),
                ([], 0, ("open", "front", False, 1, False), False),
                ([], 0, ("open", "back", False, 1, False), False),
            ],
        )

    def test_kinds_of_values(self):
        report = last(book_of(REPLY), LETTER)
        self.assertIsInstance(report, tuple)
        self.assertIsInstance(report[0], list)
        self.assertIs(report[2][2], True)
        self.assertIs(report[2][4], False)
        self.assertIs(report[3], False)
        self.assertIsInstance(report[2], tuple)
        self.assertIsInstance(play(book_of(), []), list)


class EventsTest(unittest.TestCase):
    """Which deed and which action makes which event."""

    def setUp(self):
        events = ("letter", "answer", "day", "moved", "status", "replied")
        self.book = book_of(*[(event, (), (("stop",),)) for event in events])

    def test_each_deed_makes_its_event(self):
        self.assertEqual(acted(self.book, LETTER), [0])
        self.assertEqual(acted(self.book, LETTER, LETTER), [0])
        self.assertEqual(acted(self.book, LETTER, ANSWER), [1])
        self.assertEqual(acted(self.book, LETTER, DAY), [2])
        self.assertEqual(acted(self.book, LETTER, hand("back")), [3])
        self.assertEqual(acted(self.book, LETTER, put("open")), [4])

    def test_the_same_again_makes_no_event(self):
        self.assertEqual(acted(self.book, LETTER, hand("front")), [])
        self.assertEqual(acted(self.book, LETTER, hand("back"), hand("back")), [])
        self.assertEqual(acted(self.book, LETTER, put("new")), [])
        self.assertEqual(acted(self.book, LETTER, put("closed"), put("closed")), [])

    def test_actions_make_events(self):
        told = [
            (("status", "open"), "status", [0, 1]),
            (("status", "new"), "status", [0]),
            (("desk", "back"), "moved", [0, 1]),
            (("desk", "front"), "moved", [0]),
            (("reply",), "replied", [0, 1]),
            (("mark", True), "status", [0]),
            (("stop",), "status", [0]),
        ]
        for action, event, indexes in told:
            book = book_of(("letter", (), (action,)), (event, (), (("stop",),)))
            self.assertEqual(acted(book, LETTER), indexes)

    def test_actions_make_only_their_own_event(self):
        others = [("status", ("moved", "replied")), ("desk", ("status", "replied")), ("reply", ("status", "moved"))]
        actions = {"status": ("status", "open"), "desk": ("desk", "back"), "reply": ("reply",)}
        for word, events in others:
            for event in events + ("letter", "answer", "day"):
                book = book_of(("letter", (), (actions[word],)), (event, (), (("stop",),)))
                self.assertEqual(acted(book, LETTER), [0, 1] if event == "letter" else [0])


class TestsTest(unittest.TestCase):
    """When the tests of a rule hold."""

    def assert_acts(self, expected, tests, *deeds):
        book = book_of(("day", tests, NOTED))
        self.assertEqual(acted(book, LETTER, *deeds, DAY), [0] if expected else [])

    def test_status(self):
        for status in ("new", "open", "waiting", "closed"):
            for other in ("new", "open", "waiting", "closed"):
                self.assert_acts(status == other, (("status", status, True),), put(other))
                self.assert_acts(status != other, (("status", status, False),), put(other))

    def test_desk(self):
        for desk in DESKS:
            for other in DESKS:
                self.assert_acts(desk == other, (("desk", desk, True),), hand(other))
                self.assert_acts(desk != other, (("desk", desk, False),), hand(other))

    def test_answered(self):
        self.assert_acts(True, (("answered", True),), ANSWER)
        self.assert_acts(False, (("answered", False),), ANSWER)
        self.assert_acts(False, (("answered", True),))
        self.assert_acts(True, (("answered", False),))
        self.assert_acts(True, (("answered", False),), ANSWER, LETTER)

    def test_marked(self):
        for marks, holds in (((), False), ((True,), True), ((False,), False), ((True, False), False)):
            actions = tuple([("mark", wanted) for wanted in marks]) + (("stop",),)
            for wanted in (True, False):
                book = book_of(("letter", (), actions), ("day", (("marked", wanted),), (("reply",),)))
                self.assertEqual(acted(book, LETTER, DAY), [1] if holds == wanted else [])

    def test_days_at_least(self):
        for number in (2, 3, 30):
            self.assert_acts(False, (("days", number),), *[DAY] * (number - 2))
        for number in (1, 2, 3, 30):
            self.assert_acts(True, (("days", number),), *[DAY] * (number - 1))
            self.assert_acts(True, (("days", number),), *[DAY] * number)
        self.assert_acts(False, (("days", 2),), DAY, DAY, ANSWER)
        self.assert_acts(False, (("days", 2),), DAY, DAY, LETTER)
        self.assertEqual(acted(book_of(("letter", (("days", 1),), NOTED)), LETTER), [])

    def test_no_test_and_all_tests(self):
        self.assert_acts(True, ())
        tests = (("status", "open", True), ("desk", "back", True), ("answered", True), ("marked", False))
        deeds = [put("open"), hand("back"), ANSWER]
        self.assert_acts(True, tests, *deeds)
        for index in range(3):
            self.assert_acts(False, tests, *deeds[:index], *deeds[index + 1:])

    def test_the_event_is_the_rules(self):
        book = book_of(("answer", (), NOTED))
        self.assertEqual([report[0] for report in play(book, [LETTER, DAY, ANSWER, LETTER])], [[], [], [0], []])


class ActionsTest(unittest.TestCase):
    """What the actions of a rule do."""

    def test_status_and_desk(self):
        book = book_of(("letter", (), (("status", "waiting"), ("desk", "back"))))
        self.assertEqual(last(book, LETTER), ([0], 0, ("waiting", "back", False, 0, False), False))

    def test_reply_answers_and_begins_the_days_anew(self):
        book = book_of(("day", (("days", 3),), (("reply",),)))
        self.assertEqual(last(book, LETTER, DAY, DAY, DAY), ([0], 1, ("new", "front", True, 0, False), False))
        self.assertEqual(last(book, LETTER, DAY, DAY), ([], 0, ("new", "front", False, 2, False), False))

    def test_replies_of_each_deed_are_counted(self):
        book = book_of(("letter", (), (("reply",), ("reply",))), ("day", (), (("reply",),)))
        reports = play(book, [LETTER, DAY, ANSWER, LETTER])
        self.assertEqual([report[1] for report in reports], [2, 1, 0, 2])

    def test_mark_and_unmark(self):
        book = book_of(("letter", (), (("mark", True),)), ("answer", (), (("mark", False),)))
        marks = [report[2][4] for report in play(book, [LETTER, DAY, LETTER, ANSWER, ANSWER, LETTER])]
        self.assertEqual(marks, [True, True, True, False, False, True])

    def test_actions_stand_in_order(self):
        book = book_of(("letter", (), (("status", "open"), ("mark", True), ("status", "closed"), ("mark", False))))
        self.assertEqual(ticket(book, LETTER), ("closed", "front", False, 0, False))

    def test_stop_ends_the_rule_and_the_event(self):
        book = book_of(
            ("letter", (), (("mark", True), ("stop",), ("status", "closed"), ("reply",))),
            ("letter", (), (("desk", "back"),)),
        )
        self.assertEqual(last(book, LETTER), ([0], 0, ("new", "front", False, 0, True), False))

    def test_stop_does_not_end_other_events(self):
        book = book_of(
            ("letter", (), (("reply",), ("status", "open"), ("stop",))),
            ("letter", (), (("desk", "back"),)),
            ("replied", (), (("stop",),)),
            ("replied", (), (("desk", "back"),)),
            ("status", (), (("mark", True),)),
        )
        self.assertEqual(last(book, LETTER), ([0, 2, 4], 1, ("open", "front", True, 0, True), False))

    def test_a_rule_that_does_not_act_does_not_stop(self):
        book = book_of(("letter", (("marked", True),), (("stop",),)), ("letter", (), NOTED))
        self.assertEqual(acted(book, LETTER), [1])
        self.assertEqual(acted(book, LETTER, LETTER), [0])


class OrderTest(unittest.TestCase):
    """Rules are tried in order as the ticket is then; new events stand behind the others."""

    def test_a_later_rule_sees_what_an_earlier_one_did(self):
        mark = ("letter", (), (("mark", True),))
        seen = ("letter", (("marked", True),), (("status", "open"),))
        self.assertEqual(acted(book_of(mark, seen), LETTER), [0, 1])
        self.assertEqual(acted(book_of(seen, mark), LETTER), [1])
        unseen = ("letter", (("marked", False),), (("status", "open"),))
        self.assertEqual(acted(book_of(mark, unseen), LETTER), [0])
        self.assertEqual(acted(book_of(unseen, mark), LETTER), [0, 1])

    def test_all_rules_of_an_event_are_tried_before_the_next_event(self):
        book = book_of(
            ("status", (), (("mark", True),)),
            ("letter", (), (("status", "open"),)),
            ("letter", (("marked", False),), (("desk", "back"),)),
            ("moved", (("marked", True),), (("reply",),)),
        )
        self.assertEqual(last(book, LETTER), ([1, 2, 0, 3], 1, ("open", "back", True, 0, True), False))

    def test_events_of_actions_stand_behind_the_others(self):
        book = book_of(
            ("letter", (), (("reply",), ("status", "open"), ("desk", "back"))),
            ("replied", (("desk", "back", True),), (("desk", "front"),)),
            ("status", (("desk", "front", True),), (("mark", True),)),
            ("moved", (("desk", "front", True),), (("status", "waiting"),)),
        )
        # replied, status, moved stand there first; then the second moved, then the second status.
        self.assertEqual(acted(book, LETTER), [0, 1, 2, 3, 3, 2])
        self.assertEqual(ticket(book, LETTER), ("waiting", "front", True, 0, True))

    def test_a_rule_is_listed_once_for_each_time(self):
        book = book_of(("replied", (), (("mark", True),)), ("letter", (), (("reply",), ("reply",), ("reply",))))
        self.assertEqual(last(book, LETTER), ([1, 0, 0, 0], 3, ("new", "front", True, 0, True), False))

    def test_away_and_back_makes_two_events(self):
        book = book_of(("letter", (), (("status", "open"), ("status", "new"))), ("status", (), NOTED))
        self.assertEqual(acted(book, LETTER), [0, 1, 1])

    def test_the_example(self):
        book = Book(
            ("front", "back"),
            (
                ("letter", (("status", "closed", True),), (("status", "open"), ("desk", "back"))),
                ("moved", (), (("reply",),)),
            ),
        )
        deeds = [("letter",), ("set", "closed"), ("letter",)]
        self.assertEqual(play(book, deeds)[2], ([0, 1], 1, ("open", "back", True, 0, False), False))
        self.assertEqual(faults(book, deeds), [("untouched", 0)])


class EndlessTest(unittest.TestCase):
    """At most 50 events of a deed are handled."""

    # Seven replies at a letter, and six changes of the status at each reply: 1 + 7 + 7 * 6 = 50 events.
    FIFTY = (
        ("letter", (("marked", False),), (("reply",),) * 4),
        ("letter", (("marked", False),), (("reply",),) * 3),
        ("replied", (), (("status", "open"), ("status", "new")) * 2),
        ("replied", (), (("status", "open"), ("status", "new"))),
        ("status", (), (("mark", True),)),
    )
    ONE_MORE = (("letter", (("marked", False),), (("desk", "back"),)),)

    def test_exactly_fifty_events(self):
        report = last(book_of(*self.FIFTY), LETTER)
        self.assertEqual(report, ([0, 1] + [2, 3] * 7 + [4] * 42, 7, ("new", "front", True, 0, True), False))

    def test_fifty_one_events(self):
        # The event "moved" is handled ahead of those of the status, so the last of these is dropped.
        report = last(book_of(*self.FIFTY + self.ONE_MORE), LETTER)
        self.assertEqual(report, ([0, 1, 5] + [2, 3] * 7 + [4] * 41, 7, ("new", "back", True, 0, True), True))

    def test_an_event_that_would_have_been_the_last_is_dropped(self):
        # Only at the other first desk the ticket is moved, behind all the changes of the status.
        rules = self.FIFTY[:4] + (("status", (), (("desk", "front"),)), ("moved", (), (("mark", True),)))
        told = [0, 1] + [2, 3] * 7 + [4] * 42
        self.assertEqual(last(book_of(*rules), LETTER), (told, 7, ("new", "front", True, 0, False), False))
        report = last(Book(("back", "front"), rules), LETTER)
        self.assertEqual(report, (told, 7, ("new", "front", True, 0, False), True))

    def test_the_next_deed_begins_anew(self):
        reports = play(book_of(*self.FIFTY + self.ONE_MORE), [LETTER, DAY, LETTER, put("open"), ANSWER])
        self.assertIs(reports[0][3], True)
        self.assertEqual(reports[1], ([], 0, ("new", "back", True, 1, True), False))
        self.assertEqual(reports[2], ([], 0, ("new", "back", False, 0, True), False))
        self.assertEqual(reports[3], ([4], 0, ("open", "back", False, 0, True), False))
        self.assertEqual(reports[4], ([], 0, ("open", "back", True, 0, True), False))

    def test_each_deed_has_its_own_fifty_events(self):
        book = book_of(("moved", (), (("desk", "front"), ("desk", "back"))), ("answer", (), (("desk", "front"),)))
        endless = ([0] * 50, 0, ("new", "back", False, 0, False), True)
        answer = ([1] + [0] * 49, 0, ("new", "back", True, 0, False), True)
        self.assertEqual(play(book, [LETTER, hand("back"), hand("front"), ANSWER])[1:], [endless, endless, answer])

    def test_events_without_end(self):
        book = book_of(
            ("moved", (("desk", "back", True),), (("desk", "front"), ("stop",))),
            ("moved", (("desk", "front", True),), (("desk", "back"),)),
        )
        report = last(book, LETTER, hand("back"))
        self.assertEqual(report, ([0, 1] * 25, 0, ("new", "back", False, 0, False), True))
        book = book_of(("letter", (), (("reply",),)), ("replied", (), (("reply",),)))
        self.assertEqual(last(book, LETTER), ([0] + [1] * 49, 50, ("new", "front", True, 0, False), True))


class RefusedTest(unittest.TestCase):
    """NoDeed and NoTicket."""

    BAD = [
        (),
        [],
        ["letter"],
        "letter",
        ("Letter",),
        ("letter", "front"),
        ("letter", ()),
        ("answer", True),
        ("day", 1),
        ("hand",),
        ("hand", "side"),
        ("hand", "new"),
        ("hand", 0),
        ("hand", ["back"]),
        ("hand", "back", "back"),
        ["hand", "back"],
        ("set",),
        ("set", "front"),
        ("set", "Open"),
        ("set", ""),
        ("set", True),
        ("set", "new", True),
        ["set", "new"],
        ("status", "new"),
        ("moved",),
        ("replied",),
        ("reply",),
        ("stop",),
        (("letter",),),
        (None,),
        0,
        1,
    ]

    def assert_refused(self, error, index, deeds):
        for called in (play, faults):
            for book in (book_of(), book_of(REPLY, STOP)):
                with self.assertRaises(error) as caught:
                    called(book, deeds)
                self.assertIs(caught.exception.__class__, error)
                self.assertEqual(caught.exception.index, index)

    def test_what_is_no_deed(self):
        for bad in self.BAD + odd_values():
            self.assert_refused(NoDeed, 0, [bad])
            self.assert_refused(NoDeed, 2, [LETTER, DAY, bad, LETTER, bad])
        for value in odd_values():
            for bad in ((value,), ("hand", value), ("set", value), ("letter", value), (value, "new")):
                self.assert_refused(NoDeed, 1, [LETTER, bad])

    def test_no_deed_comes_before_no_ticket(self):
        self.assert_refused(NoDeed, 1, [DAY, "bad"])
        self.assert_refused(NoDeed, 3, [ANSWER, LETTER, DAY, ("hand", "side")])
        self.assert_refused(NoDeed, 0, ["bad", DAY])

    def test_the_desk_is_one_of_the_books(self):
        self.assertEqual(ticket(Book(("side", "other"), ()), LETTER, hand("other"))[1], "other")
        with self.assertRaises(NoDeed) as caught:
            play(Book(("side",), ()), [LETTER, hand("side"), hand("front")])
        self.assertEqual(caught.exception.index, 2)

    def test_what_is_no_list(self):
        for deeds in [(), (LETTER,), (LETTER, "bad"), "", "letter", 0, 3] + odd_values():
            self.assert_refused(NoDeed, 0, deeds)

    def test_no_ticket_yet(self):
        for deed in (ANSWER, DAY, hand("front"), hand("back"), put("new"), put("closed")):
            self.assert_refused(NoTicket, 0, [deed])
            self.assert_refused(NoTicket, 0, [deed, LETTER])
            self.assert_refused(NoTicket, 0, [deed, deed, LETTER])
            self.assertEqual(len(play(book_of(), [LETTER, deed])), 2)

    def test_no_ticket_yet_at_a_desk_called_letter(self):
        with self.assertRaises(NoTicket) as caught:
            play(Book(("letter",), ()), [hand("letter"), LETTER])
        self.assertEqual(caught.exception.index, 0)

    def test_many_deeds(self):
        self.assertEqual(len(play(book_of(REPLY), [LETTER] * 200)), 200)
        self.assertEqual(len(play(book_of(REPLY), [LETTER] * 300)), 300)


class ArgumentsTest(unittest.TestCase):
    """[2]: what is passed stays, what is returned is new."""

    def test_arguments_by_name(self):
        self.assertEqual(play(deeds=[LETTER], book=book_of(STOP))[0][0], [0])
        self.assertEqual(faults(deeds=[LETTER], book=book_of()), [("untouched", 0)])

    def test_what_is_passed_stays(self):
        book = book_of(REPLY, ("replied", (), (("status", "closed"), ("stop",))))
        rules = book.rules()
        for called in (play, faults):
            deeds = [LETTER, DAY, hand("back"), put("open"), ANSWER]
            called(book, deeds)
            self.assertEqual(deeds, [LETTER, DAY, hand("back"), put("open"), ANSWER])
            self.assertEqual(book, Book(DESKS, rules))
            bad = [LETTER, "bad"]
            with self.assertRaises(NoDeed):
                called(book, bad)
            self.assertEqual(bad, [LETTER, "bad"])

    def test_lists_are_new_ones(self):
        book = book_of(REPLY)
        for deeds in ([], [LETTER, DAY, LETTER]):
            for called in (play, faults):
                first, second = called(book, deeds), called(book, deeds)
                self.assertEqual(first, second)
                self.assertIsNot(first, second)
                self.assertIsNot(first, deeds)
        told = play(book, [LETTER, LETTER, DAY, DAY])
        inner = [report[0] for report in told + play(book, [LETTER, LETTER, DAY, DAY])]
        for index, one in enumerate(inner):
            for other in inner[:index]:
                self.assertIsNot(one, other)
        told[0][0].append("changed")
        told.clear()
        self.assertEqual(play(book, [LETTER])[0][0], [0])

    def test_a_changed_list_of_deeds_is_played_as_it_is_then(self):
        book = book_of()
        deeds = [LETTER]
        reports = play(book, deeds)
        deeds.append(DAY)
        self.assertEqual(len(reports), 1)
        self.assertEqual(len(play(book, deeds)), 2)


if __name__ == "__main__":
    unittest.main()
