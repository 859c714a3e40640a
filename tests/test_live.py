"""[16] to [18]: a live desk."""

import random
import unittest

from lettersdesk.books import Book
from lettersdesk.errors import NoDeed, NoDesk, NoDesks, NoPerson, NothingToUndo, NoTicket
from lettersdesk.live import Desk
from lettersdesk.plays import play

from samples import ANSWER, DAY, DESKS, LETTER, REPLY, STOP, all_deeds, book_of, hand, odd_values, put, random_book
from samples import random_rule

NO_NAMES = ["", "Ann", "abcdefghi", "an n", "ann ", "ann1", "ann\n", 0, 1, (), ("ann",), ["ann"], []]
NO_DEEDS = [(), "letter", ["letter"], ("letter", 1), ("hand",), ("hand", "side"), ("set", "front"), ("moved",), 0]


def told(desk):
    """All that a desk tells."""
    tickets = [(person, desk.ticket(person)) for person in desk.people()]
    return tickets, [desk.at(name) for name in DESKS], len(desk), desk.replies, desk.book


class DeskCase(unittest.TestCase):
    def assert_refused(self, desk, error, called, *args, **fields):
        """The call raises this error, and nothing is changed."""
        before = told(desk)
        with self.assertRaises(error) as caught:
            called(*args)
        self.assertIs(caught.exception.__class__, error)
        for field, value in fields.items():
            self.assertIs(getattr(caught.exception, field), value)
        self.assertEqual(told(desk), before)


class DoTest(DeskCase):
    def test_a_new_desk(self):
        book = book_of(REPLY)
        desk = Desk(book)
        self.assertEqual(told(desk), ([], [[], []], 0, 0, book))
        self.assertNotIn("ann", desk)

    def test_deeds_of_several_people(self):
        desk = Desk(book_of(REPLY, ("answer", (), (("mark", True),)), ("day", (("days", 2),), (("desk", "back"),))))
        self.assertEqual(desk.do("bob", LETTER), ([0], 1, ("new", "front", True, 0, False), False))
        self.assertEqual(desk.do("ann", LETTER), ([0], 1, ("new", "front", True, 0, False), False))
        self.assertEqual(desk.do("bob", ANSWER), ([1], 0, ("new", "front", True, 0, True), False))
        self.assertEqual(desk.do("ann", DAY), ([], 0, ("new", "front", True, 1, False), False))
        self.assertEqual(desk.do("cy", LETTER), ([0], 1, ("new", "front", True, 0, False), False))
        self.assertEqual(desk.do("ann", DAY), ([2], 0, ("new", "back", True, 2, False), False))
        self.assertEqual(desk.ticket("bob"), ("new", "front", True, 0, True))
        self.assertEqual(desk.ticket("ann"), ("new", "back", True, 2, False))
        self.assertEqual(desk.people(), ["bob", "ann", "cy"])
        self.assertEqual(desk.replies, 3)
        self.assertEqual(len(desk), 6)

    def test_any_name_is_a_person(self):
        desk = Desk(Book(("front",), ()))
        for person in ("a", "front", "letter", "abcdefgh", "zzz"):
            desk.do(person, LETTER)
            self.assertIn(person, desk)
        self.assertEqual(desk.at("front"), ["a", "front", "letter", "abcdefgh", "zzz"])

    def test_no_person(self):
        desk = Desk(book_of(REPLY))
        desk.do("ann", LETTER)
        for person in NO_NAMES + odd_values():
            for deed in (LETTER, DAY, "bad"):
                self.assert_refused(desk, NoPerson, desk.do, person, deed)

    def test_no_deed(self):
        desk = Desk(book_of(REPLY))
        for calls in range(3):
            for deed in NO_DEEDS + odd_values():
                self.assert_refused(desk, NoDeed, desk.do, "ann", deed, index=calls)
                self.assert_refused(desk, NoDeed, desk.do, "bob", deed, index=calls)
            desk.do("ann", LETTER)

    def test_no_ticket(self):
        desk = Desk(book_of(REPLY))
        for calls in range(3):
            for deed in all_deeds(DESKS)[1:]:
                self.assert_refused(desk, NoTicket, desk.do, "bob", deed, index=calls)
            desk.do("ann", LETTER)

    def test_the_index_counts_what_is_not_taken_back(self):
        book = book_of(REPLY)
        desk = Desk(book)
        self.assert_refused(desk, NoDeed, desk.do, "ann", "bad", index=0)
        desk.do("ann", LETTER)
        desk.day()
        desk.change(book)
        desk.book = book
        self.assert_refused(desk, NoTicket, desk.do, "bob", DAY, index=4)
        self.assert_refused(desk, NoDeed, desk.do, "bob", ("hand", "side"), index=4)
        desk.undo()
        desk.undo()
        self.assert_refused(desk, NoTicket, desk.do, "bob", DAY, index=2)
        desk.undo()
        desk.undo()
        self.assert_refused(desk, NoTicket, desk.do, "ann", DAY, index=0)

    def test_desks_are_their_own(self):
        book = book_of(REPLY)
        one, two = Desk(book), Desk(book)
        one.do("ann", LETTER)
        self.assertEqual((one.people(), two.people()), (["ann"], []))
        self.assertEqual((one.replies, two.replies), (1, 0))


class DayTest(DeskCase):
    def test_no_tickets(self):
        desk = Desk(book_of(REPLY))
        self.assertEqual(desk.day(), [])
        self.assertEqual(desk.day(), [])
        self.assertEqual(told(desk), ([], [[], []], 2, 0, book_of(REPLY)))

    def test_each_ticket_in_the_order_of_the_beginnings(self):
        desk = Desk(book_of(("day", (("days", 2), ("answered", False)), (("reply",),))))
        desk.do("zoe", LETTER)
        self.assertEqual(desk.day(), [("zoe", ([], 0, ("new", "front", False, 1, False), False))])
        desk.do("ann", LETTER)
        desk.do("mo", LETTER)
        desk.do("ann", put("closed"))
        desk.do("zoe", hand("back"))
        expected = [
            ("zoe", ([0], 1, ("new", "back", True, 0, False), False)),
            ("ann", ([], 0, ("closed", "front", False, 1, False), False)),
            ("mo", ([], 0, ("new", "front", False, 1, False), False)),
        ]
        self.assertEqual(desk.day(), expected)
        self.assertEqual(desk.replies, 1)
        self.assertEqual(desk.ticket("ann"), ("closed", "front", False, 1, False))
        self.assertEqual([person for person, _ in desk.day()], ["zoe", "ann", "mo"])
        self.assertEqual(desk.replies, 3)
        self.assertEqual(len(desk), 8)

    def test_kinds_of_values(self):
        desk = Desk(book_of(STOP))
        desk.do("ann", LETTER)
        (item,) = desk.day()
        self.assertIsInstance(item, tuple)
        self.assertIsInstance(item[1], tuple)
        self.assertIsInstance(item[1][0], list)


class UndoTest(DeskCase):
    def test_nothing_to_undo(self):
        desk = Desk(book_of(REPLY))
        self.assert_refused(desk, NothingToUndo, desk.undo)
        desk.do("ann", LETTER)
        desk.undo()
        self.assert_refused(desk, NothingToUndo, desk.undo)

    def test_each_kind_of_call_until_nothing_is_left(self):
        first, second = book_of(REPLY), book_of(REPLY, ("day", (), (("reply",),)))
        desk = Desk(first)
        steps = [
            lambda: desk.day(),
            lambda: desk.do("bob", LETTER),
            lambda: desk.do("ann", LETTER),
            lambda: desk.do("bob", hand("back")),
            lambda: desk.day(),
            lambda: desk.change(second),
            lambda: desk.day(),
            lambda: setattr(desk, "book", first),
            lambda: desk.do("bob", put("closed")),
            lambda: desk.change(first),
            lambda: desk.do("ann", LETTER),
        ]
        seen = []
        for step in steps:
            seen.append(told(desk))
            step()
        self.assertEqual(len(desk), len(steps))
        for before in reversed(seen):
            self.assertNotEqual(told(desk), before)
            self.assertIsNone(desk.undo())
            self.assertEqual(told(desk), before)
        self.assert_refused(desk, NothingToUndo, desk.undo)

    def test_a_first_letter(self):
        desk = Desk(book_of(REPLY))
        desk.do("ann", LETTER)
        desk.do("bob", LETTER)
        desk.undo()
        self.assertEqual((desk.people(), desk.replies, len(desk)), (["ann"], 1, 1))
        self.assertNotIn("bob", desk)
        self.assert_refused(desk, NoPerson, desk.ticket, "bob")
        self.assert_refused(desk, NoTicket, desk.do, "bob", DAY, index=1)
        desk.undo()
        desk.do("bob", LETTER)
        desk.do("ann", LETTER)
        self.assertEqual(desk.people(), ["bob", "ann"])

    def test_on_after_an_undo(self):
        desk = Desk(book_of(REPLY, ("day", (("days", 2),), (("status", "waiting"),))))
        desk.do("ann", LETTER)
        desk.day()
        desk.day()
        self.assertEqual(desk.ticket("ann"), ("waiting", "front", True, 2, False))
        desk.undo()
        self.assertEqual(desk.ticket("ann"), ("new", "front", True, 1, False))
        self.assertEqual(desk.day(), [("ann", ([1], 0, ("waiting", "front", True, 2, False), False))])

    def test_refused_calls_are_not_taken_back(self):
        desk = Desk(book_of(REPLY))
        desk.do("ann", LETTER)
        self.assert_refused(desk, NoDeed, desk.do, "ann", "bad", index=1)
        self.assert_refused(desk, NoDesks, desk.change, Book(("front",), ()))
        desk.undo()
        self.assertEqual(told(desk), ([], [[], []], 0, 0, book_of(REPLY)))

    def test_many_calls(self):
        desk = Desk(book_of(REPLY))
        for _ in range(95):
            desk.do("ann", LETTER)
            desk.day()
        for left in reversed(range(190)):
            desk.undo()
            self.assertEqual(len(desk), left)
        self.assertEqual(desk.replies, 0)


class ChangeTest(DeskCase):
    def test_another_book(self):
        first = book_of(STOP)
        second = book_of(("letter", (), (("status", "open"),)), ("day", (("days", 2),), (("reply",),)))
        desk = Desk(first)
        desk.do("ann", LETTER)
        desk.day()
        self.assertIsNone(desk.change(second))
        self.assertEqual(desk.book, second)
        self.assertEqual(len(desk), 3)
        self.assertEqual(desk.ticket("ann"), ("new", "front", False, 1, False))
        self.assertEqual(desk.day(), [("ann", ([1], 1, ("new", "front", True, 0, False), False))])
        desk.book = first
        self.assertEqual(desk.book, first)
        self.assertEqual(len(desk), 5)
        self.assertEqual(desk.do("bob", LETTER), ([0], 0, ("new", "front", False, 0, False), False))

    def test_the_same_book(self):
        book = book_of(STOP)
        desk = Desk(book)
        desk.change(book)
        desk.book = book
        self.assertEqual(len(desk), 2)

    def test_other_desks(self):
        desk = Desk(book_of(REPLY))
        desk.do("ann", LETTER)
        for desks in (("front",), ("back", "front"), ("front", "back", "side")):
            other = Book(desks, (STOP,))
            self.assert_refused(desk, NoDesks, desk.change, other)
            self.assert_refused(desk, NoDesks, setattr, desk, "book", other)
        self.assertEqual(desk.do("ann", LETTER)[0], [0])


class TellingTest(DeskCase):
    def setUp(self):
        self.desk = Desk(book_of(STOP, ("answer", (), (("status", "closed"),))))
        for person in ("dee", "ann", "bob", "cy"):
            self.desk.do(person, LETTER)

    def test_ticket(self):
        self.desk.do("bob", ANSWER)
        self.assertEqual(self.desk.ticket("bob"), ("closed", "front", True, 0, False))
        self.assertIsInstance(self.desk.ticket("bob"), tuple)
        for person in ["eve", "front"] + NO_NAMES + odd_values():
            self.assert_refused(self.desk, NoPerson, self.desk.ticket, person)

    def test_people_with_closed_tickets(self):
        self.desk.do("ann", ANSWER)
        self.assertEqual(self.desk.people(), ["dee", "ann", "bob", "cy"])
        self.desk.do("dee", LETTER)
        self.assertEqual(self.desk.people(), ["dee", "ann", "bob", "cy"])

    def test_at(self):
        self.assertEqual(self.desk.at("front"), ["dee", "ann", "bob", "cy"])
        self.assertEqual(self.desk.at("back"), [])
        for person in ("cy", "dee", "bob"):
            self.desk.do(person, hand("back"))
        self.assertEqual(self.desk.at("front"), ["ann"])
        self.assertEqual(self.desk.at("back"), ["dee", "bob", "cy"])
        self.desk.do("bob", ANSWER)
        self.desk.do("ann", put("closed"))
        self.assertEqual(self.desk.at("front"), [])
        self.assertEqual(self.desk.at("back"), ["dee", "cy"])
        self.desk.do("bob", put("waiting"))
        self.assertEqual(self.desk.at("back"), ["dee", "bob", "cy"])

    def test_no_desk(self):
        for name in ["side", "", "Front", "ann", "new", 0, (), ("front",), ["front"]] + odd_values():
            self.assert_refused(self.desk, NoDesk, self.desk.at, name, name=name)

    def test_in(self):
        self.assertIs("ann" in self.desk, True)
        for value in ["eve", "front"] + NO_NAMES + odd_values() + [LETTER, ["ann"], {"ann": 1}]:
            self.assertIs(value in self.desk, False)

    def test_len_and_replies(self):
        self.assertEqual(len(self.desk), 4)
        self.assertEqual(self.desk.replies, 0)
        desk = Desk(book_of(("letter", (), (("reply",),) * 3), ("day", (), (("reply",),))))
        desk.do("ann", LETTER)
        desk.do("bob", LETTER)
        self.assertEqual(desk.replies, 6)
        desk.day()
        self.assertEqual(desk.replies, 8)
        desk.undo()
        desk.undo()
        self.assertEqual(desk.replies, 3)

    def test_replies_can_not_be_assigned(self):
        with self.assertRaises(AttributeError):
            self.desk.replies = 3

    def test_lists_are_the_callers_own(self):
        before = told(self.desk)
        report = self.desk.do("ann", DAY)
        report[0].append(7)
        reports = self.desk.day()
        reports[0][1][0].append(7)
        reports.clear()
        self.assertEqual(self.desk.day()[0][1][0], [])
        for _ in range(3):
            self.desk.undo()
        self.desk.people().clear()
        self.desk.at("front").clear()
        self.assertEqual(told(self.desk), before)
        self.assertIsNot(self.desk.people(), self.desk.people())

    def test_arguments_by_name(self):
        desk = Desk(book=book_of(STOP))
        desk.do(deed=LETTER, person="ann")
        desk.change(book=book_of(REPLY))
        self.assertEqual(desk.ticket(person="ann")[0], "new")
        self.assertEqual(desk.at(name="front"), ["ann"])


class AsPlayTest(unittest.TestCase):
    """[18]: a desk does with each person's deeds what `play` tells of them."""

    def test_deeds_at_random(self):
        source = random.Random(18)
        for _ in range(60):
            book = random_book(source, most_rules=5)
            self.check(source, book)

    def check(self, source, book):
        desk = Desk(book)
        calls = []
        for _ in range(60):
            word = source.choice(["do", "do", "do", "day", "undo"])
            if word == "undo" and calls:
                desk.undo()
                calls.pop()
            elif word == "day":
                calls.append(("day", desk.day()))
            else:
                person = source.choice(["ann", "bob", "cy"])
                deed = source.choice(all_deeds(book.desks())) if person in desk else LETTER
                calls.append((person, deed, desk.do(person, deed)))
        self.assertEqual(len(desk), len(calls))
        self.assertEqual(desk.people(), list(dict.fromkeys(call[0] for call in calls if call[0] != "day")))
        sent = 0
        for person in desk.people():
            deeds, reports = self.deeds_of(person, calls)
            played = play(book, deeds)
            self.assertEqual(reports, played)
            self.assertEqual(desk.ticket(person), played[-1][2])
            sent += sum(report[1] for report in played)
        self.assertEqual(desk.replies, sent)

    def deeds_of(self, person, calls):
        """A person's deeds, with a day for each one since the first letter, and the reports of the desk."""
        deeds, reports = [], []
        for call in calls:
            if call[0] == person:
                deeds.append(call[1])
                reports.append(call[2])
            elif call[0] == "day" and deeds:
                deeds.append(DAY)
                reports.append(dict(call[1])[person])
        return deeds, reports

    def test_a_changed_book_goes_on_with_the_same_tickets(self):
        source = random.Random(19)
        for _ in range(30):
            first, second = [Book(DESKS, tuple(random_rule(source, DESKS, 3) for _ in range(3))) for _ in range(2)]
            desk = Desk(first)
            deeds = [LETTER] + [source.choice(all_deeds(DESKS)) for _ in range(6)]
            for deed in deeds:
                desk.do("ann", deed)
            desk.book = second
            ticket = desk.ticket("ann")
            self.assertEqual(ticket, play(first, deeds)[-1][2])
            desk.undo()
            self.assertEqual(desk.do("ann", DAY), play(first, deeds + [DAY])[-1])


if __name__ == "__main__":
    unittest.main()
