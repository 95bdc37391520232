"""Points [1] to [4] and [15]: markings, and what is wrong with their entries, numbers and keys."""

import unittest
from fractions import Fraction

from marktruly.errors import InvalidKey, InvalidNumber, InvalidPair, MarkError
from marktruly.markings import Marking, written_table
from marktruly.sources import Table
from packings import drawn_markings
from samples import HUGE, NO_INTEGERS, divisor_of, fraction_of, shares_of

ENTRIES = (
    ((1, "", ()),),
    ((2, "b", ("c", "a", "b")), (1, "a", ("a",)), (3, "b", ())),
    ((10 ** 40, "x y", ("~", " ", "")), (1, "a", ()), (10 ** 39, "x y", ("a", "B", "b"))),
    ((1, "a", ("z",)), (1, "a", ("z",)), (4, "a", ("z", "y"))),
    tuple((at * at % 17 + 1, "abcdefg"[at % 7], tuple("t" + str(k) for k in range(at, 0, -1))) for at in range(60)),
)
OTHER_TEXTS = ("zz", "A", "t", "t60", "a\n", "not there")


def listed(entries):
    return [[weight, text, list(accused)] for weight, text, accused in entries]


def all_entries():
    return list(ENTRIES) + [marking.entries for marking, _ in drawn_markings(30, 2)]


class MarkingTest(unittest.TestCase):

    def assert_is(self, marking, entries):
        whole = sum(weight for weight, _, _ in entries)
        self.assertEqual(marking.entries, tuple((weight, text, tuple(sorted(told))) for weight, text, told in entries))
        for part in (marking.entries, *marking.entries, *[entry[2] for entry in marking.entries]):
            self.assertIs(tuple, part.__class__)
        self.assertEqual((len(marking), marking.whole), (len(entries), whole))
        written, accused = sorted({entry[1] for entry in entries}), {text for entry in entries for text in entry[2]}
        self.assertEqual(marking.texts(), tuple(written))
        for text in sorted({*written, *accused, *OTHER_TEXTS}):
            writes = sum(weight for weight, other, _ in entries if other == text)
            accuses = sum(weight for weight, _, told in entries if text in told)
            self.assertEqual(fraction_of(marking.written_share(text)), Fraction(writes, whole))
            self.assertEqual(fraction_of(marking.accused_share(text)), Fraction(accuses, whole))
        for key, (_, text, told) in enumerate(entries):
            self.assertEqual(marking.write(key), text)
            for other in (*told, *OTHER_TEXTS, "a", ""):
                self.assertIs(marking.accuses(key, other), other in told)

    def test_markings(self):
        for entries in all_entries():
            for marking in (Marking(entries), Marking(listed(entries)), Marking(entries=list(entries))):
                for _ in range(2):
                    self.assert_is(marking, entries)

    def test_arguments_by_name(self):
        marking = Marking(ENTRIES[1])
        self.assertEqual((marking.write(key=1), marking.key_of(number=2)), ("a", 1))
        self.assertIs(marking.accuses(key=0, text="c"), True)
        self.assertEqual(marking.written_share(text="b").written(), "5/6")
        self.assertEqual(marking.accused_share(text="a").written(), "1/2")

    def test_later_changes_of_what_was_passed(self):
        for entries in ENTRIES:
            passed = listed(entries)
            marking = Marking(passed)
            self.assertEqual(passed, listed(entries))
            passed[0][0] = 99
            passed[-1][1] = "zz"
            passed[0][2].append("zz")
            passed.append([1, "zz", ["zz"]])
            self.assert_is(marking, entries)
            del passed[:]
            self.assert_is(marking, entries)

    def test_key_of(self):
        for entries in all_entries():
            marking = Marking(entries)
            if marking.whole < 2000:
                dealt = [at for at, entry in enumerate(entries) for _ in range(entry[0])]
                self.assertEqual([marking.key_of(number) for number in range(marking.whole)], dealt)
            first = 0
            for at, entry in enumerate(entries):
                self.assertEqual((marking.key_of(first), marking.key_of(first + entry[0] - 1)), (at, at))
                first = first + entry[0]
            self.assert_is(marking, entries)

    def test_wrong_numbers(self):
        for entries in ENTRIES:
            marking = Marking(entries)
            for number in (-1, marking.whole, marking.whole + 1, -marking.whole, HUGE, -HUGE) + NO_INTEGERS:
                with self.assertRaises(InvalidNumber) as caught:
                    marking.key_of(number)
                self.assertEqual(repr(caught.exception.number), repr(number))
                self.assertTrue(isinstance(caught.exception, MarkError) and isinstance(caught.exception, ValueError))
            self.assert_is(marking, entries)

    def test_wrong_keys(self):
        for entries in ENTRIES:
            marking = Marking(entries)
            for key in (-1, len(entries), len(entries) + 1, -len(entries), HUGE, -HUGE) + NO_INTEGERS:
                for asked in (lambda: marking.write(key), lambda: marking.accuses(key, "a")):
                    with self.assertRaises(InvalidKey) as caught:
                        asked()
                    self.assertEqual(repr(caught.exception.key), repr(key))
                    self.assertTrue(isinstance(caught.exception, MarkError) and isinstance(caught.exception, ValueError))
            self.assert_is(marking, entries)

    def test_error_keeps_the_key_as_it_was(self):
        key = [0, [1]]
        with self.assertRaises(InvalidKey) as caught:
            Marking(ENTRIES[0]).write(key)
        key[1].append(2)
        self.assertEqual(caught.exception.key, [0, [1]])

    def test_wrong_weights(self):
        for weight in (0, -1, -HUGE) + NO_INTEGERS:
            for at in range(3):
                entries = [[1, "a", ["b"]], [2, "a", []], [3, "c", ["c", "a"]]]
                entries[at][0] = weight
                self.assert_wrong(entries, at)
                self.assert_wrong(tuple(map(tuple, entries)), at)
                entries[at][0] = HUGE
                self.assert_is(Marking(entries), entries)

    def test_first_of_several_wrong_weights(self):
        self.assert_wrong(((1, "a", ()), (None, "b", ()), (0, "c", ())), 1)
        self.assert_wrong(((True, "a", ()), (1, "b", ()), (0, "c", ())), 0)
        self.assert_wrong([(1, "a", ())] * 59 + [("1", "a", ())], 59)

    def assert_wrong(self, entries, at):
        before = repr(entries)
        with self.assertRaises(InvalidPair, msg=before) as caught:
            Marking(entries)
        self.assertEqual(caught.exception.at, at)
        self.assertTrue(isinstance(caught.exception, MarkError) and isinstance(caught.exception, ValueError))
        self.assertEqual(repr(entries), before)

    def test_written_table(self):
        for entries in all_entries():
            marking = Marking(entries)
            for table in (written_table(marking), written_table(marking=marking)):
                self.assertIs(Table, table.__class__)
                self.assertEqual(table.texts(), marking.texts())
                told = {text: fraction_of(marking.written_share(text)) for text in marking.texts()}
                self.assertEqual(shares_of(table), told)
                self.assertEqual(divisor_of(table), 1)
            self.assert_is(marking, entries)

    def test_written_table_as_told(self):
        table = written_table(Marking(((2, "b", ("a",)), (4, "a", ()), (4, "b", ("b",)))))
        self.assertEqual((table.weight_of("a"), table.weight_of("b"), table.whole), (2, 3, 5))


if __name__ == "__main__":
    unittest.main()
