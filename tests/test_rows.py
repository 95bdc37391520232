"""Points [2], [3], [12] and [13]: rows judged, and their sums."""

import unittest
from fractions import Fraction

from marktruly.changes import Changes, unchanged
from marktruly.errors import MarkError, UnknownText
from marktruly.packing import row_fault, row_sum
from marktruly.shares import Share
from marktruly.sources import Machine, Table
from packings import LEVELS, Dice, judged, packings, row_problem, row_total, share_from
from samples import fraction_of, shares_of

SOURCE = Table((("c", 2), ("a", 1), ("b", 1)))
CHANGES = Changes((("c", ()), ("b", ()), ("a", ("b", "z"))))


def row_of(*fractions):
    return tuple([(text, Share(*fraction)) for text, fraction in zip("abc", fractions)])


class RowTest(unittest.TestCase):

    def assert_judged(self, source, changes, level, row):
        told = row_fault(source, changes, level, row)
        self.assertEqual(told, row_problem(source, changes, level, row))
        self.assertIn(told.__class__, (tuple, None.__class__))
        return told

    def test_as_told(self):
        for fractions, level, told in (
            (((0, 1), (0, 1), (0, 1)), (1, 4), None),
            (((1, 4), (0, 1), (1, 4)), (1, 4), None),
            (((1, 8), (1, 8), (1, 4)), (1, 4), None),
            (((1, 4), (1, 4), (1, 2)), (1, 2), None),
            (((-1, 4), (1, 4), (1, 2)), (1, 2), ("share", "a")),
            (((1, 4), (-1, 10 ** 40), (1, 2)), (1, 2), ("share", "b")),
            (((1, 4), (1, 4), (10 ** 40 + 1, 2 * 10 ** 40)), (1, 1), ("share", "c")),
            (((1, 3), (-1, 4), (1, 1)), (1, 4), ("share", "a")),
            (((1, 4), (1, 3), (-1, 1)), (1, 100), ("share", "b")),
            (((1, 8), (1, 7), (1, 4)), (1, 4), ("level", "b")),
            (((1, 8), (1, 8), (1, 4)), (1, 9), ("level", "a")),
            (((0, 1), (1, 8), (1, 4)), (1, 9), ("level", "b")),
            (((0, 1), (1, 9), (1, 4)), (1, 9), ("level", "c")),
        ):
            self.assertEqual(self.assert_judged(SOURCE, CHANGES, Share(*level), row_of(*fractions)), told)

    def test_levels_above_one_count_as_one(self):
        source, changes = Table((("a", 1), ("b", 1))), Changes((("a", ("z",)), ("b", ("z",))))
        row = (("a", Share(1, 2)), ("b", Share(1, 2)))
        for level in (Share(1, 1), Share(10 ** 40, 10 ** 40 - 1), Share(7, 1)):
            self.assertIsNone(row_fault(source, changes, level, row))
        self.assertEqual(row_fault(source, changes, Share(10 ** 40 - 1, 10 ** 40), row), ("level", "z"))

    def test_a_share_counts_ahead_of_a_level(self):
        row = row_of((1, 4), (1, 4), (3, 4))
        self.assertEqual(row_fault(SOURCE, CHANGES, Share(1, 100), row), ("share", "c"))

    def test_readable_texts_of_other_texts_count_for_nothing(self):
        changes = Changes((("a", ()), ("b", ()), ("c", ("0",)), ("y", ("0", "a", "c"))))
        row = row_of((1, 4), (1, 4), (1, 4))
        self.assertIsNone(row_fault(SOURCE, changes, Share(1, 4), row))
        self.assertEqual(row_fault(SOURCE, changes, Share(1, 5), row), ("level", "0"))

    def test_rows_of_many_texts(self):
        dice = Dice(3)
        found = {}
        self.assertEqual(max(len(source.texts()) for source, _ in judged()), 24)
        for source, changes in judged():
            for level in LEVELS[::2]:
                for part in (2, 3, 9, 40):
                    row = []
                    for text, share in shares_of(source).items():
                        over = dice.below(part + 1) if dice.below(30) else dice.below(2 * part) - part // 2
                        row.append((text, share_from(share * Fraction(over, part))))
                    told = self.assert_judged(source, changes, level, row)
                    found[told and told[0]] = found.get(told and told[0], 0) + 1
        self.assertGreater(min(found[None], found["share"], found["level"]), 100)

    def test_unknown_texts_are_told_ahead(self):
        bad = row_of((-1, 4), (2, 1), (1, 1))
        for texts, text in (("", "a"), ("bc", "a"), ("ac", "b"), ("abx", "c"), ("c", "a")):
            with self.assertRaises(UnknownText) as caught:
                row_fault(SOURCE, unchanged(list(texts)), Share(1, 9), bad)
            self.assertEqual(caught.exception.text, text)
            self.assertIsInstance(caught.exception, MarkError)

    def test_only_texts_with_a_share_need_a_row(self):
        machine = Machine("ab", 0, (((0, 0), (1, 0)),), 1)
        row = (("b", Share(1, 2)),)
        self.assertIsNone(row_fault(machine, Changes((("b", ("a",)),)), Share(1, 2), row))
        with self.assertRaises(UnknownText) as caught:
            row_fault(machine, Changes((("a", ("b",)),)), Share(1, 2), row)
        self.assertEqual(caught.exception.text, "b")

    def test_arguments_stay(self):
        row = [["a", Share(1, 4)], ["b", Share(0, 1)], ["c", Share(1, 2)]]
        before = [(text, share.written()) for text, share in row]
        for _ in range(2):
            self.assertIsNone(row_fault(source=SOURCE, changes=CHANGES, level=Share(1, 2), row=row))
            self.assertEqual(row_fault(SOURCE, CHANGES, Share(1, 3), row), ("level", "c"))
            self.assertEqual(row_sum(row=row).written(), "3/4")
        self.assertEqual([(text, share.written()) for text, share in row], before)
        self.assertTrue(all(isinstance(pair, list) for pair in row))

    def test_row_sum(self):
        self.assertEqual(fraction_of(row_sum(())), 0)
        self.assertEqual(fraction_of(row_sum([])), 0)
        self.assertEqual(fraction_of(row_sum((("a", Share(2, 3)),))), Fraction(2, 3))
        self.assertEqual(fraction_of(row_sum(row_of((1, 2), (-1, 3), (5, 1)))), Fraction(31, 6))
        dice = Dice(5)
        for many in range(61):
            row = [(str(at), Share(dice.below(10 ** 9) - 10 ** 8, 1 + dice.below(50))) for at in range(many)]
            self.assertEqual(fraction_of(row_sum(row)), row_total(row))

    def test_the_samples_have_what_they_should(self):
        for source, changes in packings():
            self.assertLessEqual(len(source.texts()), 8)
            self.assertLessEqual(len({told for text in source.texts() for told in changes.of(text)}), 16)
        self.assertEqual({len(source.texts()) for source, _ in packings()}, set(range(1, 9)))


if __name__ == "__main__":
    unittest.main()
