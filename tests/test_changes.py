"""Points [1], [2] and [9]: changes as told."""

import unittest

from marktruly.errors import InvalidPair, UnknownText
from marktruly.changes import Changes
from marktruly.shares import Share
from samples import SIGNS

ROWS = (
    (),
    (("a", ()),),
    (("a", ("b",)), ("b", ()), ("c", ())),
    (("b", ("c", "a", "c", "b")), ("", ("a",)), ("a b", ("~", " "))),
    tuple((SIGNS[93 - k] * (k % 11 or 3), [SIGNS[k] * j for j in range(k % 5)]) for k in range(24)),
)


def plain(rows):
    """What may be read, by its plain meaning."""
    return {text: tuple(sorted({text, *readable})) for text, readable in rows}


class ChangesTest(unittest.TestCase):

    def assert_is(self, changes, rows):
        told = plain(rows)
        self.assertEqual(changes.texts(), tuple(sorted(told)))
        for text in sorted(told):
            self.assertEqual(changes.of(text), told[text])
        self.assertEqual(changes.readable(), tuple(sorted({other for row in told.values() for other in row})))
        for text in ("not there", "zz", "A", "A\n"):
            with self.assertRaises(UnknownText) as caught:
                changes.of(text)
            self.assertEqual(caught.exception.text, text)

    def test_changes(self):
        for rows in ROWS:
            listed = [[text, list(readable)] for text, readable in rows]
            for changes in (Changes(rows), Changes(listed), Changes(rows=rows), Changes(rows[::-1])):
                for _ in range(2):
                    self.assert_is(changes, rows)

    def test_no_rows(self):
        for changes in (Changes(()), Changes([])):
            self.assertEqual((changes.texts(), changes.readable()), ((), ()))
            with self.assertRaises(UnknownText) as caught:
                changes.of("")
            self.assertEqual(caught.exception.text, "")

    def test_the_text_itself_is_readable(self):
        for readable in ((), ("a",), ("b",), ("a", "a"), ("b", "a", "b")):
            changes = Changes((("a", readable),))
            self.assertIn("a", changes.of(text="a"))
            self.assertEqual(changes.of("a"), tuple(sorted({"a", *readable})))

    def test_readable_texts_are_not_texts(self):
        changes = Changes((("a", ("b",)),))
        self.assertEqual(changes.texts(), ("a",))
        with self.assertRaises(UnknownText) as caught:
            changes.of("b")
        self.assertEqual(caught.exception.text, "b")

    def test_later_changes_of_what_was_passed(self):
        rows = [["b", ["a", "c"]], ["a", []]]
        changes = Changes(rows)
        self.assertEqual(rows, [["b", ["a", "c"]], ["a", []]])
        rows[0][1].append("d")
        rows[1][0] = "x"
        rows.append(["y", ["z"]])
        self.assert_is(changes, (("b", ("a", "c")), ("a", ())))

    def test_repeated_texts(self):
        for rows, at in (
            ((("a", ()), ("a", ())), 1),
            ((("a", ("b",)), ("b", ()), ("a", ("c",)), ("b", ())), 2),
            ((("", ()), ("a", ()), ("b", ()), ("", ())), 3),
        ):
            for passed in (rows, [[text, list(readable)] for text, readable in rows]):
                before = repr(passed)
                with self.assertRaises(InvalidPair) as caught:
                    Changes(passed)
                self.assertEqual(caught.exception.at, at)
                self.assertEqual(repr(passed), before)
            mended = rows[:at] + (("z", ("a",)),)
            self.assert_is(Changes(mended), mended)

    def test_equality(self):
        for rows in ROWS:
            for other in ROWS:
                equal = plain(rows) == plain(other)
                self.assertIs(Changes(rows) == Changes(other), equal)
                self.assertIs(Changes(rows) != Changes(other), not equal)

    def test_equality_of_rows_told_in_other_ways(self):
        changes = Changes((("a", ("b", "c")), ("b", ())))
        for rows in (
            (("b", ()), ("a", ("b", "c"))), (("a", ("c", "b")), ("b", ("b",))), [["a", ["a", "b", "c", "b"]], ["b", []]],
        ):
            self.assertIs(changes == Changes(rows), True)
            self.assertIs(changes != Changes(rows), False)
        for rows in (
            (("a", ("b",)), ("b", ())), (("a", ("b", "c", "d")), ("b", ())), (("a", ("b", "c")),),
            (("a", ("b", "c")), ("b", ()), ("c", ())), (("a", ("b", "c")), ("c", ())), (("a", ("b", "c")), ("b", ("a",))),
            (("a", ()), ("b", ("a", "c"))),
        ):
            self.assertIs(changes == Changes(rows), False)
            self.assertIs(Changes(rows) == changes, False)
            self.assertIs(changes != Changes(rows), True)

    def test_other_things_are_not_equal(self):
        changes = Changes((("a", ("b",)),))
        for other in (None, 1, "a", (("a", ("b",)),), [("a", ("a", "b"))], {"a": ("a", "b")}, Share(1, 1), object()):
            self.assertIs(changes == other, False)
            self.assertIs(other == changes, False)
            self.assertIs(changes != other, True)
            self.assertIs(other != changes, True)
        self.assertIs(Changes(()) == (), False)


if __name__ == "__main__":
    unittest.main()
