"""[19] and [20]: books and deeds as texts."""

import random
import re
import unittest

from lettersdesk.books import Book
from lettersdesk.errors import NoDeed, NoText
from lettersdesk.texts import book_text, deeds_text, read_book, read_deeds

from samples import ANSWER, DAY, DESKS, EVENTS, LETTER, REPLY, STATUSES, STOP, all_deeds, hand, odd_values, put
from samples import random_book, random_rule

ODD_DESKS = ("do", "if", "not", "at")
LINES = [
    (REPLY, "at letter do reply"),
    (("answer", (), (("stop",),)), "at answer do stop"),
    (("day", (("days", 1),), (("mark", True),)), "at day if days 1 do mark"),
    (("day", (("days", 30),), (("mark", False),)), "at day if days 30 do unmark"),
    (("moved", (("answered", True),), (("status", "open"),)), "at moved if answered do status open"),
    (("status", (("answered", False),), (("desk", "back"),)), "at status if not answered do desk back"),
    (("replied", (("marked", True),), (("desk", "front"),)), "at replied if marked do desk front"),
    (("replied", (("marked", False),), (("stop",),)), "at replied if not marked do stop"),
    (("letter", (("status", "new", True),), (("stop",),)), "at letter if status new do stop"),
    (("letter", (("status", "closed", False),), (("stop",),)), "at letter if not status closed do stop"),
    (("letter", (("desk", "back", True),), (("stop",),)), "at letter if desk back do stop"),
    (("letter", (("desk", "front", False),), (("stop",),)), "at letter if not desk front do stop"),
    (
        ("day", (("days", 3), ("days", 12)), (("reply",), ("stop",))),
        "at day if days 3, days 12 do reply, stop",
    ),
    (
        (
            "answer",
            (("marked", False), ("status", "waiting", True), ("answered", True), ("desk", "back", False)),
            (("mark", False), ("status", "closed"), ("mark", True), ("desk", "front")),
        ),
        "at answer if not marked, status waiting, answered, not desk back do unmark, status closed, mark, desk front",
    ),
]
ODD_LINES = [
    (("day", (("desk", "do", True),), (("desk", "do"),)), "at day if desk do do desk do"),
    (("day", (), (("desk", "do"), ("reply",))), "at day do desk do, reply"),
    (
        ("day", (("desk", "do", True), ("desk", "do", False)), (("desk", "do"),)),
        "at day if desk do, not desk do do desk do",
    ),
    (("day", (("desk", "if", False),), (("desk", "if"),)), "at day if not desk if do desk if"),
    (("day", (("desk", "not", False), ("marked", True)), (("stop",),)), "at day if not desk not, marked do stop"),
    (("day", (("desk", "at", True),), (("desk", "at"), ("desk", "do"))), "at day if desk at do desk at, desk do"),
]


class TextCase(unittest.TestCase):
    def assert_refused(self, error, field, value, called, *args):
        with self.assertRaises(error) as caught:
            called(*args)
        self.assertIs(caught.exception.__class__, error)
        self.assertEqual(getattr(caught.exception, field), value)
        self.assertIs(getattr(caught.exception, field).__class__, int)

    def assert_no_text(self, line, text):
        self.assert_refused(NoText, "line", line, read_book, text)

    def assert_no_deeds(self, line, text):
        self.assert_refused(NoText, "line", line, read_deeds, text)


class BookTextTest(TextCase):
    def test_desks_alone(self):
        for desks in (("a",), DESKS, ODD_DESKS, ("letter", "closed", "abcdefgh")):
            self.assertEqual(book_text(Book(desks, ())), " ".join(desks))
            self.assertEqual(read_book(" ".join(desks)), Book(desks, ()))

    def test_each_kind_of_line(self):
        for rule, line in LINES:
            book = Book(DESKS, (rule,))
            self.assertEqual(book_text(book), "front back\n" + line)
            self.assertEqual(read_book("front back\n" + line), book)

    def test_each_event_status_and_number(self):
        texts = [(event, "marked", ("marked", True)) for event in EVENTS]
        texts += [("day", f"status {status}", ("status", status, True)) for status in STATUSES]
        texts += [("day", f"not status {status}", ("status", status, False)) for status in STATUSES]
        texts += [("day", f"days {days}", ("days", days)) for days in range(1, 31)]
        for event, text, test in texts:
            book = Book(DESKS, ((event, (test,), (("stop",),)),))
            self.assertEqual(book_text(book), f"front back\nat {event} if {text} do stop")
            self.assertEqual(read_book(book_text(book)), book)

    def test_odd_names_of_desks(self):
        for rule, line in ODD_LINES:
            book = Book(ODD_DESKS, (rule,))
            self.assertEqual(book_text(book), "do if not at\n" + line)
            self.assertEqual(read_book("do if not at\n" + line), book)
        names = ("new", "closed", "days", "mark")
        rule = ("day", (("desk", "closed", False), ("desk", "days", True)), (("desk", "mark"), ("status", "new")))
        text = "new closed days mark\nat day if not desk closed, desk days do desk mark, status new"
        self.assertEqual(book_text(Book(names, (rule,))), text)
        self.assertEqual(read_book(text), Book(names, (rule,)))

    def test_several_rules(self):
        rules = tuple(rule for rule, _ in LINES[:8])
        text = "front back\n" + "\n".join(line for _, line in LINES[:8])
        self.assertEqual(book_text(Book(DESKS, rules)), text)
        self.assertEqual(read_book(text), Book(DESKS, rules))

    def test_books_at_random(self):
        source = random.Random(19)
        for _ in range(300):
            book = random_book(source, most_rules=8, most_desks=4, most_days=30)
            self.assertEqual(read_book(book_text(book)), book)
            odd = Book(ODD_DESKS, tuple(random_rule(source, ODD_DESKS, 30) for _ in range(3)))
            self.assertEqual(read_book(book_text(odd)), odd)

    def test_arguments_by_name(self):
        self.assertEqual(read_book(text="front"), Book(("front",), ()))
        self.assertEqual(book_text(book=Book(("front",), ())), "front")


class ReadBookTest(TextCase):
    def test_what_is_no_string(self):
        for text in [0, 3, (), ("front",), ["front"], []] + odd_values():
            self.assert_no_text(0, text)

    def test_the_line_of_the_desks(self):
        wrong = [
            "", " ", "\n", "\t", "front ", " front", "front  back", "front\tback", "front,back", "front, back",
            "Front", "front1", "abcdefghi", "front front", "front back front", "a b c d e", "a b c d ", "front back-",
        ]
        for line in wrong:
            self.assert_no_text(0, line)
            self.assert_no_text(0, line + "\nat letter do reply")
            self.assert_no_text(0, line + "\nbad")

    def test_a_line_that_writes_no_rule(self):
        wrong = [
            "", " ", "bad", "front back", "at", "at letter", "at letter ", "letter do reply", "at do reply",
            "at letter do", "at letter do ", "at letter reply", "at letter do reply ", " at letter do reply",
            "at  letter do reply", "at letter  do reply", "at letter do  reply", "at\tletter do reply",
            "at letter do reply\t", "At letter do reply", "at Letter do reply", "at hand do reply",
            "at set do stop", "at closed do stop",
            "at letter do Reply", "at letter do mark, ", "at letter do mark,", "at letter do , mark",
            "at letter do mark,stop", "at letter do mark ,stop", "at letter do mark , stop",
            "at letter do mark,  stop", "at letter do mark stop",
            "at letter do mark,, stop", "at letter do mark, do stop", "at letter do do mark", "at letter do mark;",
            "at letter do not mark", "at letter do mark True", "at letter do status", "at letter do status Open",
            "at letter do status front", "at letter do status  open", "at letter do desk", "at letter do desk side",
            "at letter do desk open", "at letter do days 3", "at letter do answered", "at letter do unmark stop",
            "at letter do reply, reply, reply, reply, reply", "at letter if do reply", "at letter if  do reply",
            "at letter if marked", "at letter if marked do", "at letter if marked do ", "at letter if marked, do reply",
            "at letter if , marked do reply", "at letter if marked,answered do reply",
            "at letter if marked answered do reply", "at letter if marked if answered do reply",
            "at letter if if marked do reply", "at letter marked do reply",
            "at letter if marked  do reply", "at letter if  marked do reply", "at letter if not do reply",
            "at letter if not not marked do reply", "at letter if unmarked do reply", "at letter if mark do reply",
            "at letter if not  marked do reply", "at letter if reply do reply", "at letter if status do reply",
            "at letter if status front do reply", "at letter if desk side do reply", "at letter if desk do reply",
            "at letter if desk new do reply", "at letter if not days 3 do reply", "at letter if days do reply",
            "at letter if days 0 do reply", "at letter if days 31 do reply", "at letter if days 01 do reply",
            "at letter if days 030 do reply", "at letter if days +3 do reply", "at letter if days -3 do reply",
            "at letter if days 3.0 do reply", "at letter if days three do reply", "at letter if days 3_0 do reply",
            "at letter if days 1 2 do reply", "at letter if days " + "1" * 60 + " do reply",
            "at letter if marked, marked, marked, marked, marked do reply", "at letter do reply if marked",
            "at letter do reply do reply", "at letter if marked do reply at letter do reply",
            "#", "at letter do reply #",
        ]
        for line in wrong:
            self.assert_no_text(1, "front back\n" + line)
            self.assert_no_text(3, "front back\nat letter do reply\nat day if days 1 do stop\n" + line + "\n" + line)

    def test_a_newline_at_the_end(self):
        self.assert_no_text(1, "front back\n")
        self.assert_no_text(2, "front back\nat letter do reply\n")
        self.assert_no_text(1, "front back\n\nat letter do reply")

    def test_a_line_too_many(self):
        rule = "\nat letter do reply"
        self.assertEqual(len(read_book("front" + rule * 8)), 8)
        self.assert_no_text(9, "front" + rule * 9)
        self.assert_no_text(9, "front" + rule * 30)
        self.assert_no_text(9, "front" + rule * 8 + "\n")
        self.assert_no_text(9, "front" + rule * 8 + "\nbad")
        self.assert_no_text(4, "front" + rule * 3 + "\nbad" + rule * 9)

    def test_desks_of_other_books(self):
        self.assert_no_text(1, "front\nat letter do desk back")
        self.assert_no_text(1, "front\nat letter if not desk back do stop")

    def test_four_tests_and_actions(self):
        text = "front\nat day if marked, marked, days 3, days 3 do stop, stop, reply, reply"
        self.assertEqual(book_text(read_book(text)), text)

    def test_lines_with_a_sign_changed(self):
        """What the pattern of a line allows is read and written again; nothing else is read."""
        source = random.Random(20)
        read = 0
        for _ in range(4000):
            desks, (_, line) = source.choice([(DESKS, source.choice(LINES)), (ODD_DESKS, source.choice(ODD_LINES))])
            for _ in range(source.randint(1, 2)):
                line = self.changed(source, line)
            text = " ".join(desks) + "\n" + line
            if self.pattern(desks).fullmatch(line):
                self.assertEqual(book_text(read_book(text)), text)
                read += 1
            else:
                self.assert_no_text(1, text)
        self.assertGreater(read, 50)

    def changed(self, source, line):
        at = source.randrange(len(line))
        words = ["", " ", ",", ", ", "do", " do ", "not ", "1", "at ", "if", line[:at][-4:], line[at:][:7]]
        word = source.choice(words)
        return line[:at] + word + line[at + source.choice([0, 0, 1, 2, len(word)]):]

    def pattern(self, desks):
        status, desk = "|".join(STATUSES), "|".join(desks)
        test = f"(?:(?:not )?(?:status (?:{status})|desk (?:{desk})|answered|marked)|days (?:[1-9]|[12][0-9]|30))"
        action = f"(?:status (?:{status})|desk (?:{desk})|reply|mark|unmark|stop)"
        tests, actions = f"{test}(?:, {test}){{0,3}}", f"{action}(?:, {action}){{0,3}}"
        return re.compile(f"at (?:{'|'.join(EVENTS)})(?: if {tests})? do {actions}")


class DeedsTest(TextCase):
    def test_each_deed(self):
        deeds = all_deeds(("front", "do", "letter", "abcdefgh"))
        lines = ["letter", "answer", "day", "hand front", "hand do", "hand letter", "hand abcdefgh"]
        lines += ["set new", "set open", "set waiting", "set closed"]
        for deed, line in zip(deeds, lines, strict=True):
            self.assertEqual(deeds_text([deed]), line)
            self.assertEqual(read_deeds(line), [deed])
        self.assertEqual(deeds_text(deeds), "\n".join(lines))
        self.assertEqual(read_deeds("\n".join(lines)), deeds)

    def test_no_deeds(self):
        self.assertEqual(deeds_text([]), "")
        self.assertEqual(read_deeds(""), [])

    def test_deeds_that_can_not_be_played(self):
        self.assertEqual(deeds_text([DAY, ANSWER]), "day\nanswer")
        self.assertEqual(read_deeds("day\nanswer"), [DAY, ANSWER])

    def test_no_deed(self):
        wrong = [
            (), [], ["letter"], "letter", ("Letter",), ("letter", "front"), ("day", 1), ("hand",), ("hand", ""),
            ("hand", "Front"), ("hand", "abcdefghi"), ("hand", "a b"), ("hand", 1), ("hand", ["front"]), ("set",),
            ("set", "front"), ("set", True), ("set", "new", True), ("status", "new"), ("moved",), ("reply",), 0,
        ]
        for deed in wrong + odd_values():
            self.assert_refused(NoDeed, "index", 0, deeds_text, [deed])
            self.assert_refused(NoDeed, "index", 2, deeds_text, [LETTER, hand("side"), deed, LETTER, deed])

    def test_what_is_no_list(self):
        for deeds in [(), (LETTER,), "", "letter", 0, 3] + odd_values():
            self.assert_refused(NoDeed, "index", 0, deeds_text, deeds)

    def test_no_text(self):
        wrong = [
            " ", "\t", "bad", "Letter", "letter ", " letter", "letter front", "hand", "hand ", "hand  front",
            "hand Front", "hand front ", "hand front back", "hand abcdefghi", "hand front1", "hand\tfront", "set",
            "set front", "set  new", "set New", "moved", "reply", "letter,", "letter, day", "letter day", "1",
        ]
        for line in wrong:
            self.assert_no_deeds(0, line)
            self.assert_no_deeds(2, "letter\nhand side\n" + line + "\nday\n" + line)

    def test_empty_lines(self):
        self.assert_no_deeds(0, "\n")
        self.assert_no_deeds(0, "\nletter")
        self.assert_no_deeds(1, "letter\n")
        self.assert_no_deeds(1, "letter\n\nday")

    def test_what_is_no_string(self):
        for text in [0, 3, (), ("letter",), ["letter"], []] + odd_values():
            self.assert_no_deeds(0, text)

    def test_lists_are_new_ones_and_arguments_stay(self):
        deeds = [LETTER, put("open")]
        self.assertEqual(deeds_text(deeds=deeds), "letter\nset open")
        self.assertEqual(deeds, [LETTER, put("open")])
        for text in ("", "letter\nset open"):
            first = read_deeds(text=text)
            self.assertIsNot(first, read_deeds(text))
            first.append("more")
            self.assertNotIn("more", read_deeds(text))

    def test_many_deeds(self):
        deeds = [hand("abcdefgh")] * 400
        self.assertEqual(read_deeds(deeds_text(deeds)), deeds)


if __name__ == "__main__":
    unittest.main()
