"""Points [2], [3] and [14] to [17]: the best markings, and the markings of rows."""

import unittest
from fractions import Fraction
from math import gcd as divisor_of_two

from marktruly.changes import Changes, unchanged
from marktruly.errors import UnknownText
from marktruly.judges import accused_at, blind_share, found_share, gap, seen_at
from marktruly.markings import Marking, best_marking, marking_of_row
from marktruly.packing import best_row, row_fault, row_sum, worth
from marktruly.shares import Share
from marktruly.sources import Machine, Table, table_of
from packings import LEVELS, Dice, capped, packings, share_from
from samples import fraction_of, shares_of, sources


def common_divisor(marking):
    found = 0
    for entry in marking.entries:
        found = divisor_of_two(found, entry[0])
    return found


def told_keys(source, changes, row):
    """The keys of a row's marking: share, text, accused texts, in the told order."""
    shares = shares_of(source)
    parts = [(text, fraction_of(share)) for text, share in row]
    keys = [(share, text, changes.of(text)) for text, share in parts if share > 0]
    return keys + [(shares[text] - share, text, ()) for text, share in parts if share < shares[text]]


class BestMarkingTest(unittest.TestCase):

    def assert_best(self, source, changes, level):
        marking = best_marking(source, changes, level)
        self.assertIs(Marking, marking.__class__)
        written, accused = {}, {}
        for weight, text, told in marking.entries:
            written[text] = written.get(text, 0) + Fraction(weight, marking.whole)
            for other in told:
                accused[other] = accused.get(other, 0) + Fraction(weight, marking.whole)
        self.assertEqual(written, shares_of(source))
        self.assertLessEqual(max(accused.values()), capped(level))
        self.assertIsNone(seen_at(source, marking))
        self.assertIsNone(accused_at(marking, level))
        self.assertTrue(gap(source, changes, level, marking) == Share(0, 1))
        self.assertTrue(found_share(changes, marking) == worth(source, changes, level) == blind_share(changes, marking))
        self.assertLessEqual(len(marking), 2 * len(source.texts()))
        self.assertEqual(common_divisor(marking), 1)

    def test_best_markings(self):
        for source, changes in packings():
            for level in LEVELS[::3]:
                self.assert_best(source, changes, level)

    def test_the_example_of_the_document(self):
        source = Table((("a", 1), ("b", 1), ("c", 2)))
        changes = Changes((("a", ("b",)), ("b", ()), ("c", ())))
        marking = best_marking(source=source, changes=changes, level=Share(1, 4))
        self.assertEqual((seen_at(source, marking), found_share(changes, marking).written()), (None, "1/2"))

    def test_one_text(self):
        marking = best_marking(Table((("a", 10 ** 40),)), Changes((("a", ("z",)),)), Share(1, 3))
        self.assertEqual(marking.entries, ((1, "a", ("a", "z")), (2, "a", ())))
        for level in (Share(1, 1), Share(4, 3)):
            marking = best_marking(Table((("a", 10 ** 40),)), Changes((("a", ("z",)),)), level)
            self.assertEqual(marking.entries, ((1, "a", ("a", "z")),))

    def test_machines(self):
        machine = Machine("ab", 1, (((1, 1), (2, 0)), ((3, 0), (1, 1))), 3)
        self.assertEqual(len(machine.texts()), 8)
        for level in LEVELS[::3]:
            self.assert_best(machine, unchanged(machine.texts()), level)

    def test_unknown_texts(self):
        source = Table((("c", 1), ("a", 1), ("b", 1)))
        for texts, text in (("", "a"), ("bc", "a"), ("ac", "b"), ("abx", "c")):
            changes = unchanged(list(texts))
            row = [(told, Share(1, 3)) for told in "abc"]
            for asked in (
                lambda: best_marking(source, changes, Share(1, 2)), lambda: marking_of_row(source, changes, row),
            ):
                with self.assertRaises(UnknownText) as caught:
                    asked()
                self.assertEqual(caught.exception.text, text)


class RowMarkingTest(unittest.TestCase):

    def assert_marking_of_row(self, source, changes, row):
        marking = marking_of_row(source, changes, row)
        keys = told_keys(source, changes, row)
        self.assertEqual([(Fraction(weight, marking.whole), text, accused) for weight, text, accused in marking.entries],
                         keys)
        self.assertEqual(common_divisor(marking), 1)
        self.assertIsNone(seen_at(source, marking))
        self.assertTrue(found_share(changes, marking) == row_sum(row))
        for level in LEVELS[::2]:
            if row_fault(source, changes, level, row) is None:
                self.assertIsNone(accused_at(marking, level))

    def test_best_rows(self):
        for source, changes in packings(20):
            for level in LEVELS[::4]:
                self.assert_marking_of_row(source, changes, best_row(source, changes, level))

    def test_any_rows(self):
        dice = Dice(13)
        large = [source for source in sources() if len(source.texts()) <= 24]
        cases = [(source, Changes([(text, ("z", text[:1])) for text in source.texts()])) for source in large]
        for source, changes in cases + packings(20):
            for part in (1, 2, 3, 10 ** 9):
                row = [[text, share_from(share * Fraction(dice.below(part + 1), part))]
                       for text, share in shares_of(source).items()]
                self.assert_marking_of_row(source, changes, row)

    def test_as_told(self):
        source = Table((("c", 30), ("a", 10), ("b", 20)))
        changes = Changes((("c", ("z", "a")), ("b", ()), ("a", ("y",))))
        row = (("a", Share(1, 6)), ("b", Share(0, 1)), ("c", Share(1, 4)))
        marking = marking_of_row(source=source, changes=changes, row=row)
        self.assertEqual(marking.entries, ((2, "a", ("a", "y")), (3, "c", ("a", "c", "z")), (4, "b", ()), (3, "c", ())))
        nothing = [(text, Share(0, 1)) for text in "abc"]
        self.assertEqual(marking_of_row(source, changes, nothing).entries, ((1, "a", ()), (2, "b", ()), (3, "c", ())))
        all_found = [(text, source.share_of(text)) for text in "abc"]
        self.assertEqual(marking_of_row(source, changes, all_found).entries,
                         ((1, "a", ("a", "y")), (2, "b", ("b",)), (3, "c", ("a", "c", "z"))))

    def test_arguments_stay(self):
        source = Table((("a", 1), ("b", 1)))
        row = [["a", Share(1, 2)], ["b", Share(1, 4)]]
        for _ in range(2):
            marking = marking_of_row(source, unchanged(("a", "b")), row)
            self.assertEqual(marking.entries, ((2, "a", ("a",)), (1, "b", ("b",)), (1, "b", ())))
        self.assertEqual([(text, share.written()) for text, share in row], [("a", "1/2"), ("b", "1/4")])
        row[0][1] = Share(0, 1)
        self.assertEqual(marking.entries, ((2, "a", ("a",)), (1, "b", ("b",)), (1, "b", ())))
        self.assertEqual(table_of(source).whole, 2)


if __name__ == "__main__":
    unittest.main()
