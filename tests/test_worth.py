"""Points [2], [3], [12], [13] and [14]: the worth, and the row and the prices that show it."""

import unittest
from fractions import Fraction

from marktruly.changes import Changes, unchanged
from marktruly.errors import UnknownText
from marktruly.levels import plain_worth
from marktruly.packing import best_row, cost, price_fault, prices, row_fault, row_sum, worth
from marktruly.shares import Share
from marktruly.sources import Machine, Table
from packings import (
    LEVELS, Dice, drawn, packings, plain_cost, price_problem, row_problem, row_total, shaped, share_from)
from samples import fraction_of, shares_of


def changes_of(**rows):
    return Changes([(text, tuple(readable)) for text, readable in rows.items()])


def table_from(*weights):
    return Table(list(zip("abcdefgh", weights)))


class WorthTest(unittest.TestCase):

    def assert_shown(self, source, changes, level):
        """A row and prices are as they should be and tell the worth; by themselves they show that it is the greatest."""
        told, row, paper = worth(source, changes, level), best_row(source, changes, level), prices(source, changes, level)
        self.assertEqual([text for text, _ in row], sorted(shares_of(source)))
        self.assertEqual([text for text, _ in paper[0]], sorted(shares_of(source)))
        self.assertEqual(tuple(text for text, _ in paper[1]), changes.readable())
        for part in (row, paper, *row, *paper, *paper[0], *paper[1]):
            self.assertIs(tuple, part.__class__)
        self.assertEqual(len(paper), 2)
        self.assertIsNone(row_problem(source, changes, level, row))
        self.assertIsNone(row_fault(source, changes, level, row))
        self.assertIsNone(price_problem(source, changes, paper))
        self.assertIsNone(price_fault(source, changes, paper))
        self.assertEqual(row_total(row), plain_cost(source, level, paper))
        self.assertEqual(fraction_of(told), row_total(row))
        self.assertTrue(row_sum(row) == told == cost(source, level, paper))

    def test_rows_and_prices_tell_the_worth(self):
        for source, changes in packings():
            for level in LEVELS[::2]:
                self.assert_shown(source, changes, level)
            # Asked again, in another order, and at the bends of the source.
            for level in LEVELS[-2::-5] + tuple([source.share_of(text) for text in source.texts()]):
                self.assert_shown(source, changes, level)

    def test_many_drawn_ones(self):
        dice = Dice(99)
        for source, changes in drawn(400, 1):
            self.assert_shown(source, changes, Share(1 + dice.below(10 ** 9), 1 + dice.below(10 ** 10)))

    def test_by_name(self):
        source, changes, level = table_from(1, 2), changes_of(a="z", b="z"), Share(1, 2)
        self.assertEqual(worth(source=source, changes=changes, level=level).written(), "1/2")
        row = best_row(source=source, changes=changes, level=level)
        paper = prices(source=source, changes=changes, level=level)
        self.assertEqual((row_sum(row).written(), cost(source, level, paper).written()), ("1/2", "1/2"))

    def test_readable_texts_of_no_text_of_the_source(self):
        source = Table((("b", 1),))
        changes = Changes((("a", ("0", "b")), ("b", ("c",)), ("zz", ("y",))))
        paper = prices(source, changes, Share(1, 2))
        self.assertEqual([text for text, _ in paper[1]], ["0", "a", "b", "c", "y", "zz"])
        self.assert_shown(source, changes, Share(1, 2))
        self.assertEqual(best_row(source, changes, Share(1, 3))[0][1].written(), "1/3")

    def test_larger_ones_than_are_asked(self):
        dice = Dice(4)
        texts = ["t" + str(at) for at in range(14)]
        for part in (2, 4, 9):
            source = Table([(text, 1 + dice.below(50)) for text in texts])
            changes = Changes([(text, dice.some(texts + ["z" + str(at) for at in range(20)], part)) for text in texts])
            for level in LEVELS[::4]:
                self.assert_shown(source, changes, level)

    def test_unknown_texts(self):
        source = Table((("c", 1), ("a", 1), ("b", 1)))
        for texts, text in (("", "a"), ("bc", "a"), ("ac", "b"), ("abx", "c")):
            for function in (worth, best_row, prices):
                with self.assertRaises(UnknownText) as caught:
                    function(source, unchanged(list(texts)), Share(1, 2))
                self.assertEqual(caught.exception.text, text)

    def test_machines(self):
        machine = Machine("ab", 0, (((1, 0), (2, 1)), ((0, 0), (4, 0))), 2)
        changes = Changes((("aa", ("ab",)), ("ab", ()), ("bb", ("ab",)), ("ba", ("bb",))))
        self.assertEqual(worth(machine, changes, Share(1, 2)).written(), "1/2")
        self.assertEqual(worth(machine, unchanged(machine.texts()), Share(1, 3)).written(), "2/3")
        self.assertEqual([text for text, _ in best_row(machine, changes, Share(1, 2))], ["aa", "ab", "bb"])


class WorthByHandTest(unittest.TestCase):

    def assert_worths(self, source, changes, told):
        """The worth at each of these levels is told as a fraction of two integers."""
        for level, (over, under) in told:
            self.assertEqual(fraction_of(worth(source, changes, Share(*level))), Fraction(over, under), level)

    def test_the_example_of_the_document(self):
        source = table_from(1, 1, 2)
        self.assertEqual(worth(source, unchanged(source.texts()), Share(1, 4)).written(), "3/4")
        self.assertEqual(worth(source, changes_of(a="b", b="", c=""), Share(1, 4)).written(), "1/2")

    def test_one_text(self):
        tiny = (1, 10 ** 40)
        for changes in (changes_of(a=""), changes_of(a="z"), changes_of(a="xyz", b="a")):
            for weight in (1, 7, 10 ** 40 - 1):
                self.assert_worths(table_from(weight), changes, (
                    (tiny, tiny), ((1, 3), (1, 3)), ((1, 1), (1, 1)), ((10 ** 40, 10 ** 40 - 1), (1, 1)), ((5, 1), (1, 1))))

    def test_two_texts(self):
        source = table_from(1, 2)
        self.assert_worths(source, changes_of(a="", b=""), (
            ((1, 10), (1, 5)), ((1, 3), (2, 3)), ((1, 2), (5, 6)), ((2, 3), (1, 1)), ((1, 1), (1, 1)), ((3, 2), (1, 1))))
        # Whatever they have in common: together they are at most the level.
        for changes in (changes_of(a="b", b=""), changes_of(a="", b="a"), changes_of(a="z", b="z"), changes_of(a="xz", b="yz")):
            self.assert_worths(source, changes, (
                ((1, 10), (1, 10)), ((1, 3), (1, 3)), ((2, 3), (2, 3)), ((9, 10), (9, 10)), ((1, 1), (1, 1)), ((3, 2), (1, 1))))
        # Two that have nothing in common but readable texts of a third one that is not drawn.
        self.assert_worths(source, changes_of(a="x", b="y", c="xy"), (((1, 10), (1, 5)), ((1, 2), (5, 6))))

    def test_three_texts_in_a_path(self):
        changes = changes_of(a="x", b="xy", c="y")
        self.assert_worths(table_from(1, 2, 1), changes, (
            ((1, 8), (1, 4)), ((1, 4), (1, 2)), ((3, 8), (5, 8)), ((1, 2), (3, 4)), ((3, 4), (1, 1)), ((9, 1), (1, 1))))
        # Small ends do not use up the level, so the middle takes the rest of it.
        self.assert_worths(table_from(1, 8, 1), changes, (
            ((1, 10), (1, 5)), ((1, 5), (3, 10)), ((1, 2), (3, 5)), ((9, 10), (1, 1)), ((1, 1), (1, 1))))

    def test_three_texts_in_a_triangle(self):
        changes = changes_of(a="xz", b="xy", c="yz")
        self.assert_worths(table_from(1, 1, 1), changes, (
            ((1, 10), (3, 20)), ((1, 3), (1, 2)), ((1, 2), (3, 4)), ((2, 3), (1, 1)), ((1, 1), (1, 1)), ((2, 1), (1, 1))))
        self.assert_worths(table_from(1, 1, 3), changes, (
            ((1, 5), (3, 10)), ((2, 5), (3, 5)), ((3, 5), (4, 5)), ((4, 5), (1, 1)), ((1, 1), (1, 1))))
        # One text that all three have is worse than three that two of them have.
        self.assert_worths(table_from(1, 1, 1), changes_of(a="z", b="z", c="z"), (
            ((1, 10), (1, 10)), ((1, 3), (1, 3)), ((1, 1), (1, 1))))

    def test_stars(self):
        changes = changes_of(a="x", b="y", c="z", d="xyz")
        self.assert_worths(table_from(1, 1, 1, 3), changes, (
            ((1, 12), (1, 4)), ((1, 6), (1, 2)), ((1, 3), (2, 3)), ((2, 3), (1, 1)), ((1, 1), (1, 1)), ((3, 2), (1, 1))))
        # Three texts: the middle and two ends.
        self.assert_worths(table_from(1, 1, 2), changes_of(a="c", b="c", c=""), (
            ((1, 4), (1, 4)), ((1, 2), (1, 2)), ((1, 1), (1, 1))))
        self.assert_worths(table_from(1, 1, 2), changes_of(a="", b="", c="ab"), (
            ((1, 4), (1, 2)), ((1, 2), (3, 4)), ((3, 4), (1, 1))))

    def test_rings_of_five_and_seven(self):
        five = changes_of(a="vz", b="vw", c="wx", d="xy", e="yz")
        self.assert_worths(table_from(1, 1, 1, 1, 1), five, (((1, 10), (1, 4)), ((1, 5), (1, 2)), ((2, 5), (1, 1))))
        seven = changes_of(a="tz", b="tu", c="uv", d="vw", e="wx", f="xy", g="yz")
        self.assert_worths(table_from(*[1] * 7), seven, (((1, 7), (1, 2)), ((1, 5), (7, 10)), ((2, 7), (1, 1))))

    def test_large_weights(self):
        one = 10 ** 39
        source = table_from(one, one, one)
        self.assert_worths(source, changes_of(a="xz", b="xy", c="yz"), (
            ((1, one), (3, 2 * one)), ((one - 1, 3 * one), (one - 1, 2 * one)), ((2 * one - 1, 3 * one), (2 * one - 1, 2 * one))))


class GrowthTest(unittest.TestCase):

    def test_with_the_level(self):
        levels = sorted([fraction_of(level) for level in LEVELS])
        for source, changes in packings(20):
            found = [fraction_of(worth(source, changes, share_from(level))) for level in levels]
            self.assertEqual(found, sorted(found))
            for level, told in zip(levels, found):
                self.assertGreaterEqual(told, min(level, 1))
                self.assertLessEqual(told, fraction_of(plain_worth(source, share_from(level))))
            for at in range(1, len(levels) - 1):
                part = (levels[at] - levels[at - 1]) / (levels[at + 1] - levels[at - 1])
                self.assertGreaterEqual(found[at], found[at - 1] + part * (found[at + 1] - found[at - 1]))

    def test_between_two_levels(self):
        dice = Dice(8)
        for source, changes in list(shaped()) + list(drawn(60, 21)):
            low, high = sorted([Fraction(1 + dice.below(60), 60), Fraction(1 + dice.below(60), 60)])
            part = Fraction(dice.below(10), 9)
            ends = [fraction_of(worth(source, changes, share_from(level))) for level in (low, high)]
            told = fraction_of(worth(source, changes, share_from(low + part * (high - low))))
            self.assertGreaterEqual(told, ends[0] + part * (ends[1] - ends[0]))

    def test_with_the_changes(self):
        for source, changes in packings(20):
            for level in LEVELS[1:-1:5]:
                before = fraction_of(worth(source, changes, level))
                for at, text in enumerate(source.texts()):
                    for told in ("zz", source.texts()[at - 1]):
                        rows = [(other, changes.of(other)) for other in changes.texts() if other != text]
                        more = Changes(rows + [(text, changes.of(text) + (told,))])
                        self.assertLessEqual(fraction_of(worth(source, more, level)), before)


if __name__ == "__main__":
    unittest.main()
