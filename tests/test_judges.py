"""Points [2] to [4], [12], [13], [15] and [16]: markings judged."""

import unittest
from fractions import Fraction

from marktruly.changes import Changes, unchanged
from marktruly.errors import Accuses, MarkError, Seen, UnknownText
from marktruly.judges import accused_at, accused_most, blind_share, found_share, gap, seen_at
from marktruly.markings import Marking, best_marking, marking_of_row, written_table
from marktruly.packing import worth
from marktruly.shares import Share
from marktruly.sources import Machine, Table, table_of
from packings import LEVELS, Dice, drawn_markings, packings, share_from
from samples import fraction_of, sources

MARKING = Marking(((1, "b", ("a", "b")), (2, "a", ("a",)), (3, "b", ("c", "b")), (2, "c", ())))
CHANGES = Changes((("a", ()), ("b", ("a",)), ("c", ("b",)), ("d", ())))


def of_keys(marking, asked):
    """The share of the keys of which this is so, as a Fraction."""
    return Fraction(sum(entry[0] for entry in marking.entries if asked(entry)), marking.whole)


def accused_texts(marking):
    return sorted({text for entry in marking.entries for text in entry[2]})


class SeenTest(unittest.TestCase):

    def test_as_told(self):
        for pairs, told in (
            ((("a", 1), ("b", 2), ("c", 1)), None),
            ((("c", 10), ("b", 20), ("a", 10)), None),
            ((("a", 1), ("b", 1), ("c", 1)), "a"),
            ((("a", 2), ("b", 5), ("c", 1)), "b"),
            ((("a", 1), ("b", 3)), "b"),
            ((("a", 2), ("b", 4), ("d", 2)), "c"),
            ((("a", 2), ("b", 4), ("c", 1), ("d", 1)), "c"),
            ((("", 1), ("b", 2), ("c", 1)), ""),
            ((("a", 1), ("b", 2), ("c", 1), ("d", 10 ** 40)), "a"),
        ):
            for _ in range(2):
                self.assertEqual(seen_at(source=Table(pairs), marking=MARKING), told)

    def test_a_text_that_the_source_has_not(self):
        marking = Marking(((1, "a", ()), (1, "x", ()), (2, "b", ())))
        self.assertEqual(seen_at(Table((("a", 1), ("b", 3))), marking), "b")
        self.assertEqual(seen_at(Table((("a", 1), ("b", 2))), marking), "a")
        self.assertEqual(seen_at(Table((("a", 1), ("b", 2), ("y", 1))), marking), "x")
        machine = Machine("ab", 0, (((0, 0), (1, 0)),), 1)
        self.assertEqual(seen_at(machine, Marking(((1, "b", ()),))), None)
        self.assertEqual(seen_at(machine, Marking(((1, "a", ()), (1, "b", ())))), "a")

    def test_against_sources(self):
        markings = [marking for marking, _ in drawn_markings(30, 4)]
        for marking in markings:
            table = written_table(marking)
            self.assertIsNone(seen_at(table, marking))
            for other in markings[:6] + sources()[:4]:
                other = other if isinstance(other, Table) else written_table(other)
                texts = sorted({*table.texts(), *other.texts()})
                unlike = [text for text in texts if table.share_of(text) != other.share_of(text)]
                self.assertEqual(seen_at(other, marking), unlike[0] if unlike else None)


class AccusedTest(unittest.TestCase):

    def test_as_told(self):
        self.assertEqual(accused_most(marking=MARKING).written(), "1/2")
        for level, told in (
            ((1, 2), None), ((1, 1), None), ((3, 2), None), ((10 ** 40 - 1, 2 * 10 ** 40), "b"), ((3, 8), "b"),
            ((3, 9), "a"), ((1, 100), "a"),
        ):
            for _ in range(2):
                self.assertEqual(accused_at(marking=MARKING, level=Share(*level)), told)

    def test_nothing_accused(self):
        marking = Marking(((1, "a", ()), (2, "b", ())))
        self.assertEqual(fraction_of(accused_most(marking)), 0)
        for level in LEVELS:
            self.assertIsNone(accused_at(marking, level))

    def test_every_key_accuses(self):
        marking = Marking(((1, "a", ("z", "a")), (2, "b", ("z",))))
        self.assertEqual(fraction_of(accused_most(marking)), 1)
        self.assertEqual(accused_at(marking, Share(10 ** 40 - 1, 10 ** 40)), "z")
        self.assertIsNone(accused_at(marking, Share(1, 1)))
        self.assertIsNone(accused_at(marking, Share(2, 1)))

    def test_drawn_ones(self):
        for marking, _ in drawn_markings(60, 6):
            shares = {text: of_keys(marking, lambda entry: text in entry[2]) for text in accused_texts(marking)}
            self.assertEqual(fraction_of(accused_most(marking)), max(shares.values(), default=0))
            for level in LEVELS + tuple([share_from(share) for share in shares.values()]):
                above = [text for text in sorted(shares) if shares[text] > fraction_of(level)]
                self.assertEqual(accused_at(marking, level), above[0] if above else None)


class FoundTest(unittest.TestCase):

    def test_as_told(self):
        for _ in range(2):
            self.assertEqual(fraction_of(found_share(changes=CHANGES, marking=MARKING)), Fraction(3, 8))
            self.assertEqual(fraction_of(blind_share(changes=CHANGES, marking=MARKING)), Fraction(3, 8))
        changes = Changes((("a", ()), ("b", ()), ("c", ("b",))))
        self.assertEqual(fraction_of(found_share(changes, MARKING)), Fraction(6, 8))
        self.assertEqual(fraction_of(blind_share(changes, MARKING)), Fraction(6, 8))
        # Blindly, each of the two readable texts is accused half of the time; with the key it never is.
        marking = Marking(((1, "a", ("a",)), (1, "a", ("b",))))
        changes = Changes((("a", ("b",)),))
        self.assertEqual(fraction_of(found_share(changes, marking)), 0)
        self.assertEqual(fraction_of(blind_share(changes, marking)), Fraction(1, 2))

    def test_drawn_ones(self):
        unlike = 0
        for marking, changes in drawn_markings(120, 8):
            found = of_keys(marking, lambda entry: set(changes.of(entry[1])) <= set(entry[2]))
            blind = sum(
                min(of_keys(marking, lambda entry: entry[1] == text and told in entry[2]) for told in changes.of(text))
                for text in marking.texts())
            self.assertEqual(fraction_of(found_share(changes, marking)), found)
            self.assertEqual(fraction_of(blind_share(changes, marking)), blind)
            unlike = unlike + (found != blind)
        self.assertGreater(unlike, 20)

    def test_unknown_texts(self):
        for texts, text in (("", "a"), ("bc", "a"), ("ac", "b"), ("abd", "c"), ("d", "a")):
            for function in (found_share, blind_share):
                with self.assertRaises(UnknownText) as caught:
                    function(unchanged(list(texts)), MARKING)
                self.assertEqual(caught.exception.text, text)

    def test_accused_texts_need_no_row(self):
        marking = Marking(((1, "a", ("a", "x")), (1, "a", ("y",))))
        self.assertEqual(fraction_of(found_share(unchanged(("a",)), marking)), Fraction(1, 2))
        self.assertEqual(fraction_of(blind_share(unchanged(("a",)), marking)), Fraction(1, 2))

    def test_no_marking_finds_more_than_the_worth(self):
        count = 0
        for marking, changes in drawn_markings(300, 10):
            found, blind = fraction_of(found_share(changes, marking)), fraction_of(blind_share(changes, marking))
            self.assertLessEqual(found, blind)
            most = accused_most(marking)
            if fraction_of(most) > 0:
                count = count + (blind > 0)
                self.assertLessEqual(blind, fraction_of(worth(written_table(marking), changes, most)))
        self.assertGreater(count, 150)


class GapTest(unittest.TestCase):

    def test_as_told(self):
        source = Table((("a", 1), ("b", 2), ("c", 1)))
        for level, told in (((1, 2), (3, 8)), ((5, 8), (1, 2)), ((1, 1), (5, 8)), ((2, 1), (5, 8))):
            changes = Changes((("a", ()), ("b", ("a",)), ("c", ("b",))))
            self.assertEqual(fraction_of(found_share(changes, MARKING)), Fraction(3, 8))
            for _ in range(2):
                found = gap(source=source, changes=changes, level=Share(*level), marking=MARKING)
                self.assertEqual(fraction_of(found), Fraction(*told))

    def test_errors_in_their_order(self):
        unlike, tight, lacking = Table((("a", 1), ("b", 1), ("c", 1))), Share(3, 8), unchanged(("a", "c"))
        source, level, changes = Table((("a", 1), ("b", 2), ("c", 1))), Share(1, 2), unchanged(("a", "b", "c"))
        for passed, kind, text in (
            ((source, lacking, level), UnknownText, "b"), ((unlike, lacking, tight), UnknownText, "b"),
            ((unlike, changes, level), Seen, "a"), ((unlike, changes, tight), Seen, "a"),
            ((source, changes, tight), Accuses, "b"), ((source, changes, Share(1, 3)), Accuses, "a"),
            ((Table((("a", 1),)), unchanged(("a",)), level), Seen, "a"),
            ((Table((("a", 1), ("b", 2), ("d", 1))), unchanged(("a", "b", "d")), level), Seen, "c"),
        ):
            for _ in range(2):
                with self.assertRaises(kind) as caught:
                    gap(*passed, MARKING)
                self.assertEqual(caught.exception.text, text)
                self.assertTrue(isinstance(caught.exception, MarkError) and isinstance(caught.exception, ValueError))
        self.assertEqual(fraction_of(gap(source, changes, level, MARKING)), Fraction(1, 4))

    def test_never_below_zero(self):
        for marking, changes in drawn_markings(120, 12):
            source, most = written_table(marking), accused_most(marking)
            for level in [most][:most.over] + [Share(1, 1), Share(3, 2)]:
                found = gap(source, changes, level, marking)
                self.assertGreaterEqual(fraction_of(found), 0)
                self.assertTrue(worth(source, changes, level) == found + found_share(changes, marking))

    def test_zero_for_the_best(self):
        for source, changes in packings(20):
            for level in LEVELS[1::4]:
                self.assertEqual(fraction_of(gap(source, changes, level, best_marking(source, changes, level))), 0)

    def test_above_zero_for_lesser_rows(self):
        dice = Dice(31)
        for source, changes in packings(20):
            row = [(text, source.share_of(text) * Share(dice.below(3), 2 * len(source.texts()))) for text in source.texts()]
            found = gap(source, changes, Share(1, 1), marking_of_row(source, changes, row))
            self.assertEqual(fraction_of(found), 1 - sum(fraction_of(share) for _, share in row))

    def test_arguments_stay(self):
        source, before = Table((("a", 1), ("b", 2), ("c", 1))), MARKING.entries
        gap(source, CHANGES, Share(1, 2), MARKING)
        self.assertEqual(MARKING.entries, before)
        self.assertEqual([table_of(source).weight_of(text) for text in "abc"], [1, 2, 1])
        self.assertTrue(CHANGES == Changes((("a", ()), ("b", ("a",)), ("c", ("b",)), ("d", ()))))


if __name__ == "__main__":
    unittest.main()
