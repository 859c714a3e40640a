"""[4] to [6]: what is a book, and what books tell."""

import unittest

from lettersdesk.books import Book
from lettersdesk.errors import NoDesks, NoRule

from samples import DESKS, EVENTS, REPLY, STATUSES, STOP, Alike, Touchy, odd_values

GOOD_TESTS = (
    [("status", status, wanted) for status in STATUSES for wanted in (True, False)]
    + [("desk", desk, wanted) for desk in DESKS for wanted in (True, False)]
    + [(word, wanted) for word in ("answered", "marked") for wanted in (True, False)]
    + [("days", 1), ("days", 2), ("days", 29), ("days", 30)]
)
GOOD_ACTIONS = (
    [("status", status) for status in STATUSES]
    + [("desk", desk) for desk in DESKS]
    + [("reply",), ("mark", True), ("mark", False), ("stop",)]
)

BAD_TESTS = [
    ("status", "new", 1),
    ("status", "new", 0),
    ("status", "new", None),
    ("status", "new", "True"),
    ("status", "new"),
    ("status", "new", True, True),
    ("status",),
    ("status", True, "new"),
    ("status", "New", True),
    ("status", "", True),
    ("status", "front", True),
    ("status", ["new"], True),
    ["status", "new", True],
    ("desk", "front", 1),
    ("desk", "front", 0),
    ("desk", "side", True),
    ("desk", "new", True),
    ("desk", 0, True),
    ("desk", ["front"], True),
    ("desk", "front"),
    ["desk", "front", True],
    ("answered", 1),
    ("answered", 0),
    ("answered", "answered"),
    ("answered",),
    ("answered", True, True),
    ["answered", True],
    ("marked", 1),
    ("marked", 0),
    ("marked",),
    ("marked", "closed", True),
    ["marked", True],
    ("days", 0),
    ("days", 31),
    ("days", -1),
    ("days", True),
    ("days", False),
    ("days", 1.0),
    ("days", "1"),
    ("days", (1,)),
    ("days",),
    ("days", 1, True),
    ["days", 1],
    ("days", None),
    ("reply",),
    ("stop",),
    ("mark", True),
    ("unknown", True),
    ("Status", "new", True),
    (None, "new", True),
    (True, True),
    (("status",), "new", True),
    (),
    [],
    "answered",
    3,
]
BAD_ACTIONS = [
    ("status",),
    ("status", "Closed"),
    ("status", "front"),
    ("status", True),
    ("status", ["new"]),
    ("status", "new", True),
    ["status", "new"],
    ("desk",),
    ("desk", "side"),
    ("desk", "new"),
    ("desk", 0),
    ("desk", "front", True),
    ["desk", "front"],
    ("reply", True),
    ["reply"],
    "reply",
    ("mark",),
    ("mark", 1),
    ("mark", 0),
    ("mark", None),
    ("mark", "True"),
    ("mark", True, True),
    ["mark", True],
    ("unmark",),
    ("stop", True),
    ("stop", ()),
    ["stop"],
    ("days", 1),
    ("answered", True),
    ("letter",),
    ("Reply",),
    (None,),
    (("reply",),),
    (),
    [],
    0,
]
BAD_RULES = [
    ("hand", (), (("stop",),)),
    ("set", (), (("stop",),)),
    ("Letter", (), (("stop",),)),
    ("", (), (("stop",),)),
    (("letter",), (), (("stop",),)),
    (["letter"], (), (("stop",),)),
    (None, (), (("stop",),)),
    (True, (), (("stop",),)),
    ["letter", (), (("stop",),)],
    ("letter", [], (("stop",),)),
    ("letter", "", (("stop",),)),
    ("letter", None, (("stop",),)),
    ("letter", (), [("stop",)]),
    ("letter", (), None),
    ("letter", (), "stop"),
    ("letter", (), ()),
    ("letter", (), ("stop",)),
    ("letter", ("answered", True), (("stop",),)),
    ("letter", (), (("stop",),) * 5),
    ("letter", (("days", 1),) * 5, (("stop",),)),
    ("letter", ()),
    ("letter",),
    ("letter", (), (("stop",),), ()),
    ("letter", (("stop",),), ()),
    (),
    "letter",
    "abc",
    0,
    5,
]


def rule_with_test(test):
    return ("day", (test,), (("stop",),))


def rule_with_action(action):
    return ("day", (), (action,))


def numbered(many):
    """So many rules that differ from each other."""
    return tuple([("day", (("days", days),), (("reply",),)) for days in range(1, many + 1)])


class BookCase(unittest.TestCase):
    def assert_no_rule(self, index, make, *told):
        with self.assertRaises(NoRule) as caught:
            make(*told)
        self.assertIs(caught.exception.index, index)


class DesksTest(BookCase):
    def test_desks_are_one_to_four_distinct_names(self):
        names = ("a", "zebra", "abcdefgh", "do")
        for many in range(1, 5):
            self.assertEqual(Book(names[:many], ()).desks(), names[:many])
        for name in ("a", "z", "if", "not", "new", "letter", "mnopqrst"):
            self.assertEqual(Book((name,), ()).desks(), (name,))

    def test_what_are_no_desks(self):
        wrong = [
            (),
            ("a", "b", "c", "d", "e"),
            ("a", "a"),
            ("a", "b", "c", "a"),
            ["front"],
            ["front", "back"],
            "front",
            "a",
            ("",),
            ("abcdefghi",),
            ("Front",),
            ("fronT",),
            ("front desk",),
            ("front ",),
            ("front\n",),
            ("front1",),
            ("a_b",),
            ("a-b",),
            ("`",),
            ("{",),
            ("front", None),
            ("front", 1),
            ("front", ["back"]),
            (("front",),),
            (b"front",),
            ({},),
            (Alike(),),
            (Touchy(), Touchy()),
            0,
            3,
        ] + odd_values()
        for desks in wrong:
            for rules in ((), (STOP,), [], None, ("wrong",), numbered(9)):
                with self.assertRaises(NoDesks):
                    Book(desks, rules)


class RulesTest(BookCase):
    def test_every_kind_of_event_test_and_action(self):
        rules = (
            [(event, (), (("stop",),)) for event in EVENTS]
            + [rule_with_test(test) for test in GOOD_TESTS]
            + [rule_with_action(action) for action in GOOD_ACTIONS]
        )
        for rule in rules:
            self.assertEqual(Book(DESKS, (rule,)).rules(), (rule,))

    def test_up_to_four_tests_and_one_to_four_actions(self):
        for many in range(5):
            rule = ("letter", tuple(GOOD_TESTS[:many]), (("reply",),))
            self.assertEqual(Book(DESKS, (rule,))[0], rule)
        for many in range(1, 5):
            rule = ("letter", (), tuple(GOOD_ACTIONS[:many]))
            self.assertEqual(Book(DESKS, (rule,))[0], rule)
        fours = ("letter", tuple(GOOD_TESTS[-4:]), tuple(GOOD_ACTIONS[-4:]))
        self.assertEqual(Book(DESKS, (fours, fours)).rules(), (fours, fours))

    def test_rules_that_are_no_tuple(self):
        for rules in [[], [STOP], "", "letter", 0, 1, STOP[0]] + odd_values():
            self.assert_no_rule(0, Book, DESKS, rules)

    def test_a_bad_item_is_told_by_its_index(self):
        bad = (
            BAD_RULES
            + [rule_with_test(test) for test in BAD_TESTS + odd_values()]
            + [rule_with_action(action) for action in BAD_ACTIONS + odd_values()]
            + [(value, (), (("stop",),)) for value in odd_values()]
            + [("day", value, (("stop",),)) for value in odd_values()]
            + [("day", (), value) for value in odd_values()]
            + odd_values()
        )
        for item in bad:
            self.assert_no_rule(0, Book, DESKS, (item,))
            self.assert_no_rule(1, Book, DESKS, (STOP, item, STOP))
            self.assert_no_rule(7, Book, DESKS, numbered(7) + (item,))

    def test_bad_values_within_a_form(self):
        for value in odd_values():
            forms = [("status", value, True), ("desk", value, True), (value, "new", True), ("days", value)]
            if not isinstance(value, bool):
                forms += [("status", "new", value), ("desk", "front", value), ("answered", value), ("marked", value)]
            for test in forms:
                self.assert_no_rule(0, Book, DESKS, (rule_with_test(test),))
            forms = [("status", value), ("desk", value), (value,), ("reply", value)]
            if not isinstance(value, bool):
                forms.append(("mark", value))
            for action in forms:
                self.assert_no_rule(0, Book, DESKS, (rule_with_action(action),))

    def test_a_bad_test_or_action_behind_good_ones(self):
        good = ("days", 1)
        self.assert_no_rule(0, Book, DESKS, (("day", (good, good, good, ("days", 31)), (("stop",),)),))
        self.assert_no_rule(0, Book, DESKS, (("day", (), (("reply",), ("reply",), ("stop",), ("mark", 1))),))

    def test_the_desk_is_one_of_this_books_desks(self):
        rule = ("letter", (("desk", "back", True),), (("desk", "back"),))
        self.assertEqual(Book(("back",), (rule,))[0], rule)
        self.assert_no_rule(0, Book, ("front",), (rule,))
        self.assert_no_rule(0, Book, ("front",), (rule_with_test(("desk", "back", False)),))
        self.assert_no_rule(0, Book, ("front",), (rule_with_action(("desk", "back")),))

    def test_the_first_bad_item_is_told(self):
        self.assert_no_rule(1, Book, DESKS, (STOP, "bad", STOP, "bad"))
        self.assert_no_rule(0, Book, DESKS, ("bad", "bad"))

    def test_at_most_eight_rules(self):
        for many in range(9):
            self.assertEqual(Book(DESKS, numbered(many)).rules(), numbered(many))
        for many in (9, 10, 300):
            self.assert_no_rule(8, Book, DESKS, (STOP,) * many)
        self.assert_no_rule(8, Book, DESKS, numbered(8) + ("bad",))
        self.assert_no_rule(8, Book, DESKS, numbered(8) + (STOP, "bad"))
        self.assert_no_rule(3, Book, DESKS, numbered(3) + ("bad",) + numbered(8))


class TellingTest(BookCase):
    def test_arguments_by_name(self):
        book = Book(rules=numbered(2), desks=DESKS)
        self.assertEqual(book, Book(DESKS, numbered(2)))
        self.assertEqual(book.without(indexes=(0,)).rules(), numbered(2)[1:])
        self.assertEqual(book.exchanged(index=0).rules(), numbered(2)[::-1])

    def test_desks_rules_and_length(self):
        for many in (0, 1, 8):
            book = Book(DESKS, numbered(many))
            self.assertEqual(len(book), many)
            self.assertEqual(book.desks(), DESKS)
            self.assertEqual(book.rules(), numbered(many))
            self.assertIsInstance(book.desks(), tuple)
            self.assertIsInstance(book.rules(), tuple)

    def test_a_rule_by_its_index(self):
        book = Book(DESKS, numbered(3))
        for index in range(3):
            self.assertEqual(book[index], numbered(3)[index])
        for index in (3, 4, 100, -1, -3, -4):
            self.assert_no_rule(index, book.__getitem__, index)

    def test_no_rule_by_what_is_no_index(self):
        book = Book(DESKS, numbered(3))
        for index in ["0", "", (), (0,), [], [0], 1.5, STOP] + odd_values():
            self.assert_no_rule(index, book.__getitem__, index)
        empty = Book(DESKS, ())
        for index in (0, -1, False):
            self.assert_no_rule(index, empty.__getitem__, index)

    def test_no_rule_is_raised_by_brackets(self):
        with self.assertRaises(NoRule):
            Book(DESKS, numbered(3))[True]

    def test_equality(self):
        book = Book(DESKS, numbered(2))
        self.assertTrue(book == Book(DESKS, numbered(2)))
        self.assertFalse(book != Book(DESKS, numbered(2)))
        self.assertTrue(Book(("a",), ()) == Book(("a",), ()))
        others = [
            Book(DESKS, numbered(2)[::-1]),
            Book(DESKS, numbered(1)),
            Book(DESKS, numbered(3)),
            Book(DESKS, ()),
            Book(DESKS[::-1], numbered(2)),
            Book(("front",), numbered(2)),
            Book(DESKS + ("side",), numbered(2)),
        ]
        for other in others:
            self.assertFalse(book == other)
            self.assertTrue(book != other)

    def test_a_book_is_equal_to_nothing_else(self):
        book = Book(DESKS, numbered(2))
        for other in ["", (), [], DESKS, numbered(2), (DESKS, numbered(2)), Alike()] + [None, True, 2, object()]:
            self.assertIs(book == other, False)
            self.assertIs(book != other, True)


class MakingTest(BookCase):
    def setUp(self):
        self.book = Book(DESKS, numbered(4))

    def tearDown(self):
        self.assertEqual(self.book.desks(), DESKS)
        self.assertEqual(self.book.rules(), numbered(4))

    def test_sum(self):
        other = Book(DESKS, (STOP, REPLY))
        self.assertEqual(self.book + other, Book(DESKS, numbered(4) + (STOP, REPLY)))
        self.assertEqual(other + self.book, Book(DESKS, (STOP, REPLY) + numbered(4)))
        self.assertEqual(self.book + self.book, Book(DESKS, numbered(4) + numbered(4)))
        self.assertEqual(self.book + Book(DESKS, ()), self.book)
        self.assertEqual(Book(DESKS, ()) + self.book, self.book)
        self.assertEqual(other, Book(DESKS, (STOP, REPLY)))

    def test_sum_with_too_many_rules(self):
        self.assertEqual(len(self.book + Book(DESKS, numbered(4))), 8)
        for many in (5, 6, 8):
            self.assert_no_rule(8, self.book.__add__, Book(DESKS, numbered(many)))
        with self.assertRaises(NoRule):
            Book(DESKS, numbered(8)) + Book(DESKS, (STOP,))

    def test_sum_with_other_desks(self):
        for desks in (DESKS[::-1], ("front",), DESKS + ("side",), ("front", "rear")):
            for many in (0, 4, 5, 8):
                with self.assertRaises(NoDesks):
                    self.book + Book(desks, numbered(many))

    def test_without(self):
        rules = numbered(4)
        self.assertEqual(self.book.without(()), self.book)
        self.assertEqual(self.book.without((0,)), Book(DESKS, rules[1:]))
        self.assertEqual(self.book.without((3,)), Book(DESKS, rules[:3]))
        self.assertEqual(self.book.without((2, 0)), Book(DESKS, (rules[1], rules[3])))
        self.assertEqual(self.book.without((3, 1, 0, 2)), Book(DESKS, ()))
        self.assertEqual(Book(DESKS, ()).without(()), Book(DESKS, ()))

    def test_without_leaves_out_places_not_equal_rules(self):
        book = Book(DESKS, (STOP, REPLY, STOP))
        self.assertEqual(book.without((0,)).rules(), (REPLY, STOP))

    def test_without_an_item_that_is_no_index(self):
        for item in [4, -1, 100, "0", "", (), (0,), [], [1]] + odd_values():
            self.assert_no_rule(item, self.book.without, (item,))
            self.assert_no_rule(item, self.book.without, (1, 0, item, 7))

    def test_without_an_item_for_the_second_time(self):
        self.assert_no_rule(2, self.book.without, (2, 2))
        self.assert_no_rule(1, self.book.without, (0, 1, 3, 1, 0, 9))
        self.assert_no_rule(9, self.book.without, (0, 9, 0))
        self.assert_no_rule(True, self.book.without, (1, True))
        self.assert_no_rule(False, self.book.without, (0, False))

    def test_without_what_is_no_tuple(self):
        for indexes in [[], [0], [9], "", "0", 0, 2] + odd_values():
            self.assert_no_rule(0, self.book.without, indexes)

    def test_exchanged(self):
        one, two, three, four = numbered(4)
        self.assertEqual(self.book.exchanged(0).rules(), (two, one, three, four))
        self.assertEqual(self.book.exchanged(1).rules(), (one, three, two, four))
        self.assertEqual(self.book.exchanged(2).rules(), (one, two, four, three))
        self.assertEqual(self.book.exchanged(2).desks(), DESKS)

    def test_exchanged_without_two_such_rules(self):
        for index in [3, 4, 100, -1, -2, "0", (), (0,), [], 0.0] + odd_values():
            self.assert_no_rule(index, self.book.exchanged, index)
        for many in (0, 1):
            self.assert_no_rule(0, Book(DESKS, numbered(many)).exchanged, 0)
            self.assert_no_rule(-1, Book(DESKS, numbered(many)).exchanged, -1)

    def test_what_was_passed_stays(self):
        indexes = (2, 0)
        self.book.without(indexes)
        self.assertEqual(indexes, (2, 0))
        inner = [("stop",)]
        rules = (STOP, ("letter", (), inner))
        self.assert_no_rule(1, Book, DESKS, rules)
        self.assertEqual(rules, (STOP, ("letter", (), [("stop",)])))
        desks = ["front"]
        with self.assertRaises(NoDesks):
            Book(desks, ())
        self.assertEqual(desks, ["front"])


if __name__ == "__main__":
    unittest.main()
