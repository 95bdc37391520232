"""Points [2], [3], [11] and [14]: the plain worth, the worth of classes, bends, and the least level."""

import unittest
from fractions import Fraction

from marktruly.changes import Changes, classes, parting, unchanged
from marktruly.errors import MarkError, NotClasses, UnknownText
from marktruly.levels import bends, class_worth, least_level, plain_worth
from marktruly.packing import worth
from marktruly.shares import Share
from marktruly.sources import Machine, Table
from packings import LEVELS, LETTERS, Dice, capped, packings, share_from
from samples import MACHINES, fraction_of, shares_of, sources

SOURCES = [source for source in sources() if len(source.texts()) <= 24]


def plain(source, level):
    """The plain worth at a Fraction, by its plain meaning."""
    return sum(min(share, level) for share in shares_of(source).values())


def classed(many, start):
    """Tables of up to 8 texts with changes that part them into classes."""
    dice = Dice(start)
    for _ in range(many):
        texts = LETTERS[:1 + dice.below(8)]
        groups = [dice.below(1 + dice.below(5)) for _ in texts]
        members = {group: [text for text, other in zip(texts, groups) if other == group] for group in groups}
        rows = [(text, members[group] + ["z" + str(group)] * dice.below(2)) for text, group in zip(texts, groups)]
        rows = [(text, rows[groups.index(group)][1]) for text, group in zip(texts, groups)]
        source = Table([(text, 1 + dice.below((3, 10 ** 39)[dice.below(2)])) for text in texts])
        yield source, Changes(rows + [("other", ("farther",))])


class PlainTest(unittest.TestCase):

    def test_plain_worth(self):
        for source in SOURCES:
            for level in LEVELS:
                self.assertEqual(fraction_of(plain_worth(source, level)), plain(source, capped(level)))

    def test_it_is_the_worth_of_unchanged_texts(self):
        for source, _ in packings(20):
            for level in LEVELS[::3]:
                self.assertTrue(plain_worth(source, level) == worth(source, unchanged(source.texts()), level))

    def test_as_told(self):
        source = Table((("a", 1), ("b", 1), ("c", 2)))
        for level, told in (
            ((1, 100), (3, 100)), ((1, 4), (3, 4)), ((3, 8), (7, 8)), ((1, 2), (1, 1)), ((1, 1), (1, 1)), ((9, 2), (1, 1)),
        ):
            for _ in range(2):
                self.assertEqual(fraction_of(plain_worth(source=source, level=Share(*level))), Fraction(*told))


class ClassTest(unittest.TestCase):

    def test_class_worth_is_the_worth(self):
        count = 0
        for source, changes in list(classed(60, 5)) + packings(20):
            if parting(changes) is not None:
                continue
            count = count + 1
            shares = shares_of(source)
            for level in LEVELS[::2]:
                told = sum(min(sum(shares.get(text, 0) for text in row), capped(level)) for row in classes(changes))
                self.assertEqual(fraction_of(class_worth(source, changes, level)), told)
                self.assertTrue(worth(source, changes, level) == class_worth(source, changes, level))
        self.assertGreater(count, 80)

    def test_as_told(self):
        source = Table((("a", 1), ("b", 2), ("c", 3)))
        changes = Changes((("b", ("a",)), ("a", ("b",)), ("c", ("z",)), ("d", ("y",))))
        for level, told in (((1, 3), (2, 3)), ((1, 2), (1, 1)), ((1, 4), (1, 2)), ((7, 1), (1, 1))):
            self.assertEqual(fraction_of(class_worth(source=source, changes=changes, level=Share(*level))), Fraction(*told))

    def test_no_classes(self):
        source = Table((("d", 1), ("a", 1)))
        for rows, pair in (
            ((("d", ("x",)), ("a", ("x",))), ("a", "d")),
            ((("d", ()), ("a", ()), ("b", ("z",)), ("c", ("z",))), ("b", "c")),
            ((("d", ("c",)), ("a", ()), ("b", ("a",))), ("a", "b")),
        ):
            changes = Changes(rows)
            for _ in range(2):
                with self.assertRaises(NotClasses) as caught:
                    class_worth(source, changes, Share(1, 2))
                self.assertEqual((caught.exception.text, caught.exception.other), pair)
                self.assertIsInstance(caught.exception, MarkError)
            self.assertEqual(parting(changes), pair)

    def test_drawn_ones_without_classes(self):
        count = 0
        for source, changes in packings(40):
            if parting(changes) is not None:
                count = count + 1
                with self.assertRaises(NotClasses) as caught:
                    class_worth(source, changes, Share(1, 3))
                self.assertEqual((caught.exception.text, caught.exception.other), parting(changes))
        self.assertGreater(count, 20)

    def test_unknown_texts_are_told_ahead(self):
        source = Table((("d", 1), ("a", 1), ("c", 1)))
        for texts, text in (("", "a"), ("dc", "a"), ("ac", "d"), ("abd", "c"), ("b", "a")):
            parted = Changes([(told, ("x",)) for told in texts] + [("y", ("z",)), ("z", ())])
            self.assertIsNotNone(parting(parted))
            for changes in (unchanged(list(texts)), parted):
                with self.assertRaises(UnknownText) as caught:
                    class_worth(source, changes, Share(1, 2))
                self.assertEqual(caught.exception.text, text)


class BendTest(unittest.TestCase):

    def test_bends(self):
        for source in SOURCES:
            found = bends(source)
            shares = sorted(set(shares_of(source).values()))
            self.assertEqual([(fraction_of(share), fraction_of(total)) for share, total in found],
                             [(share, plain(source, share)) for share in shares])
            self.assertTrue(isinstance(found, tuple) and all(isinstance(pair, tuple) for pair in found))
            self.assertTrue(found[-1][1] == Share(1, 1))

    def test_bends_as_told(self):
        source = Table((("b", 10), ("a", 2), ("c", 9), ("d", 2), ("e", 1)))
        told = [(share.written(), total.written()) for share, total in bends(source=source)]
        self.assertEqual(told, [("1/24", "5/24"), ("1/12", "3/8"), ("3/8", "23/24"), ("5/12", "1")])
        one = bends(Machine(*MACHINES[0]))
        self.assertEqual([(share.written(), total.written()) for share, total in one], [("1", "1")])

    def test_least_level(self):
        founds = [Fraction(1, 10 ** 40), Fraction(1), Fraction(10 ** 40 - 1, 10 ** 40)]
        founds = founds + [Fraction(at, 37) for at in range(1, 37)]
        for source in SOURCES:
            greatest = max(shares_of(source).values())
            for found in founds + [fraction_of(total) for _, total in bends(source)]:
                level = fraction_of(least_level(source, share_from(found)))
                # Up to the greatest share the plain worth always rises: no lesser level finds as much.
                self.assertEqual(plain(source, level), found)
                self.assertTrue(0 < level <= greatest)

    def test_least_level_as_told(self):
        source = Table((("a", 1), ("b", 1), ("c", 2)))
        for found, told in (
            ((3, 10 ** 40), (1, 10 ** 40)), ((3, 8), (1, 8)), ((3, 4), (1, 4)), ((7, 8), (3, 8)), ((1, 1), (1, 2)),
        ):
            for _ in range(2):
                level = least_level(source=source, found=Share(*found))
                self.assertEqual(fraction_of(level), Fraction(*told))

    def test_least_level_at_the_bends(self):
        for source in SOURCES:
            for share, total in bends(source):
                self.assertTrue(least_level(source, total) == share)


if __name__ == "__main__":
    unittest.main()
