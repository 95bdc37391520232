"""Point [4], and what points [2] and [3] say of errors."""

import unittest

from marktruly import errors
from marktruly.errors import (
    Accuses, InvalidKey, InvalidNumber, InvalidPair, InvalidText, MarkError, NoMaker, NotClasses, NoTicket,
    Seen, UnknownText)

ARGUMENTS = (
    (InvalidNumber, ("number",), (7,)),
    (InvalidPair, ("at",), (3,)),
    (InvalidKey, ("key",), (-1,)),
    (UnknownText, ("text",), ("ab",)),
    (NotClasses, ("text", "other"), ("a", "b")),
    (Seen, ("text",), ("",)),
    (Accuses, ("text",), ("x y",)),
    (InvalidText, ("text", "at"), ("1/1", 0)),
    (NoTicket, ("ticket",), (60,)),
    (NoMaker, ("maker",), (6,)),
)
ODD_VALUES = (
    None, True, False, -1, 10 ** 399, "", "text", (), [], (1, [2, (3,)]), [None, [True, ["x"]]],
    [[[[[[[[[[1]]]]]]]]]],
)


class ErrorTest(unittest.TestCase):

    def test_each_stands_directly_under_mark_error(self):
        self.assertEqual(MarkError.__bases__, (ValueError,))
        for kind, _, _ in ARGUMENTS:
            self.assertEqual(kind.__bases__, (MarkError,))
            self.assertTrue(issubclass(kind, ValueError))
            for other, _, _ in ARGUMENTS:
                self.assertEqual(issubclass(kind, other), kind is other)

    def test_there_are_no_further_errors(self):
        told = {name for name, kind in vars(errors).items() if isinstance(kind, type)}
        self.assertEqual(told, {kind.__name__ for kind, _, _ in ARGUMENTS} | {"MarkError"})

    def test_arguments_are_kept_by_position_and_by_name(self):
        for kind, names, values in ARGUMENTS:
            by_name = kind(**dict(zip(names, values)))
            for error in (kind(*values), by_name):
                self.assertEqual(tuple(getattr(error, name) for name in names), values)
                self.assertEqual(set(vars(error)), set(names))

    def test_any_value_is_kept_as_it_was(self):
        for kind, name in ((InvalidNumber, "number"), (InvalidKey, "key"), (NoTicket, "ticket"), (NoMaker, "maker")):
            for value in ODD_VALUES:
                kept = getattr(kind(value), name)
                self.assertEqual(kept, value)
                self.assertEqual(repr(kept), repr(value))

    def test_later_changes_of_a_list_do_not_show(self):
        for kind, name in ((InvalidNumber, "number"), (InvalidKey, "key"), (NoTicket, "ticket"), (NoMaker, "maker")):
            inner = [1]
            value = [inner, (inner, "x")]
            error = kind(value)
            inner.append(2)
            value.append(3)
            self.assertEqual(getattr(error, name), [[1], ([1], "x")])

    def test_errors_can_be_caught_by_what_they_stand_under(self):
        for kind, _, values in ARGUMENTS:
            for above in (kind, MarkError, ValueError):
                with self.assertRaises(above):
                    raise kind(*values)


if __name__ == "__main__":
    unittest.main()
