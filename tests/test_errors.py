"""[3]: the errors of the package."""

import copy
import pickle
import unittest

from lettersdesk import errors
from lettersdesk.errors import DeskError, NoDeed, NoDesk, NoDesks, NoKind, NoPerson, NoRule, NothingToUndo, NoText
from lettersdesk.errors import NoTicket

from samples import odd_values

WITH_STRING = [NoDesks, NoKind, NoPerson, NothingToUndo]
WITH_FIELD = [(NoRule, "index"), (NoDeed, "index"), (NoTicket, "index"), (NoDesk, "name"), (NoText, "line")]
ALL = WITH_STRING + [error for error, _ in WITH_FIELD]


class ErrorsTest(unittest.TestCase):
    def test_base_is_a_value_error(self):
        self.assertEqual(DeskError.__bases__, (ValueError,))

    def test_each_error_is_a_direct_subclass_of_desk_error(self):
        for error in ALL:
            with self.subTest(error=error.__name__):
                self.assertEqual(error.__bases__, (DeskError,))

    def test_the_module_has_these_errors_and_no_others(self):
        found = [value for value in vars(errors).values() if isinstance(value, type)]
        self.assertCountEqual(found, ALL + [DeskError])
        for error in found:
            self.assertEqual(error.__module__, "lettersdesk.errors")

    def test_errors_without_fields_take_one_string(self):
        for error in WITH_STRING + [DeskError]:
            with self.subTest(error=error.__name__):
                made = error("what is wrong")
                self.assertEqual(str(made), "what is wrong")
                self.assertEqual(made.args, ("what is wrong",))

    def test_fields_by_place_and_by_name_with_any_value(self):
        values = odd_values() + [0, -1, 7, "", "front", (), ("a", [1]), [], [2]]
        for error, field in WITH_FIELD:
            for value in values:
                with self.subTest(error=error.__name__, kind=value.__class__.__name__):
                    self.assertIs(getattr(error(value), field), value)
                    self.assertIs(getattr(error(**{field: value}), field), value)

    def test_errors_with_a_field_take_exactly_that_field(self):
        for error, field in WITH_FIELD:
            with self.subTest(error=error.__name__):
                self.assertEqual(list(vars(error(3))), [field])
                with self.assertRaises(TypeError):
                    error()
                with self.assertRaises(TypeError):
                    error(1, 2)
                with self.assertRaises(TypeError):
                    error(other=1)

    def test_errors_can_be_told_whatever_the_field_is(self):
        for error, _ in WITH_FIELD:
            for value in odd_values():
                self.assertIsInstance(str(error(value)), str)

    def test_each_is_caught_by_its_name_by_the_base_and_by_value_error(self):
        for error in ALL:
            for caught in (error, DeskError, ValueError):
                with self.subTest(error=error.__name__, caught=caught.__name__):
                    with self.assertRaises(caught):
                        raise error("field or string")

    def test_none_is_caught_by_the_name_of_another(self):
        for error in ALL:
            for other in ALL:
                if other is not error:
                    self.assertFalse(issubclass(error, other))

    def test_copies_keep_the_field(self):
        for error, field in WITH_FIELD:
            for made in (error(5), error(**{field: 5})):
                self.assertEqual(getattr(copy.copy(made), field), 5)
                self.assertEqual(getattr(pickle.loads(pickle.dumps(made)), field), 5)


if __name__ == "__main__":
    unittest.main()
