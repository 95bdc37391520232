"""Points [1] to [3], [16] and [18]: the best writers for finders."""

import unittest
from fractions import Fraction
from itertools import chain, combinations
from math import gcd

from marktruly.changes import Changes, unchanged
from marktruly.judges import found_share, seen_at
from marktruly.markings import Marking
from marktruly.shares import Share
from marktruly.sources import Machine, Table
from marktruly.writers import best_writer, lot_bound
from packings import Dice, drawn, made, shaped
from samples import fraction_of, shares_of

SOURCE = Table((("c", 2), ("a", 1), ("b", 1)))
CHANGES = Changes((("c", ()), ("b", ()), ("a", ("b", "z"))))
FINDER = ((3, ("c",)), (2, ("z", "b", "a")), (1, ()), (2, ("b",)))


def drawn_finder(dice, changes, keys):
    """A finder whose keys accuse some texts, about half of them all that may be read of some text."""
    top = (1, 9, 10 ** 40)[dice.below(3)]
    finder = []
    for _ in range(keys):
        accused = dice.some(changes.readable(), 2 + dice.below(5))
        if dice.below(2):
            accused = sorted({*accused, *changes.of(changes.texts()[dice.below(len(changes.texts()))])})
        finder.append((1 + dice.below(top), tuple(accused[::-1])))
    return finder


def asked():
    """Sources with changes and finders: small ones, and ones of 24 texts with 20 keys."""
    dice = Dice(77)
    for source, changes in list(shaped()) + list(made())[::3] + list(drawn(80, 5)):
        for keys in (1, 2, 4, 7):
            yield source, changes, drawn_finder(dice, changes, keys)
    letters = "abcdefghijklmnopqrstuvwx"
    for top in (1, 5, 10 ** 40):
        source = Table([(text, 1 + dice.below(top)) for text in letters])
        for part in (3, 8, 30):
            changes = Changes([(text, dice.some(letters[:20], part)) for text in letters])
            yield source, changes, drawn_finder(dice, changes, 20)
        yield source, unchanged(letters), [(1 + dice.below(9), dice.some(letters, 2)) for _ in range(20)]


def plain_bound(source, changes, finder, lot):
    """What lot_bound has to tell, as a Fraction."""
    shares = shares_of(source)
    found = sum(weight for weight, accused in finder if any(set(changes.of(text)) <= set(accused) for text in lot))
    return 1 - sum(shares[text] for text in lot) + Fraction(found, sum(weight for weight, _ in finder))


def lots_of(texts):
    return chain.from_iterable(combinations(texts, many) for many in range(len(texts) + 1))


class BestWriterTest(unittest.TestCase):

    def assert_best(self, source, changes, finder):
        marking, lot = best_writer(source, changes, finder)
        self.assertIs(Marking, marking.__class__)
        self.assert_keys_of(finder, marking)
        self.assertEqual(gcd(*[entry[0] for entry in marking.entries]), 1)
        self.assertIsNone(seen_at(source, marking))
        self.assertEqual(lot, tuple(sorted(set(lot))))
        self.assertLessEqual(set(lot), set(source.texts()))
        found = fraction_of(found_share(changes, marking))
        self.assertEqual(found, plain_bound(source, changes, finder, lot))
        self.assertEqual(found, fraction_of(lot_bound(source, changes, finder, lot)))
        return found

    def assert_keys_of(self, finder, marking):
        """The keys come in the order of the finder, then of the texts, and have its shares and accused texts."""
        left = [Fraction(weight, sum(weight for weight, _ in finder)) for weight, _ in finder]
        place, last = 0, None
        for weight, text, accused in marking.entries:
            while left[place] == 0:
                place, last = place + 1, None
            self.assertGreater(weight, 0)
            self.assertEqual(accused, tuple(sorted(finder[place][1])))
            self.assertTrue(last is None or last < text)
            left[place], last = left[place] - Fraction(weight, marking.whole), text
            self.assertGreaterEqual(left[place], 0)
        self.assertEqual(set(left), {0})

    def test_all(self):
        values = set()
        for source, changes, finder in asked():
            values.add(self.assert_best(source, changes, finder))
        self.assertGreater(len(values), 100)

    def test_no_lot_has_less(self):
        dice, count = Dice(5), 0
        for source, changes, finder in asked():
            texts = source.texts()
            if len(texts) <= 6:
                found = fraction_of(found_share(changes, best_writer(source, changes, finder)[0]))
                bounds = []
                for lot in lots_of(texts):
                    told = lot_bound(source, changes, finder, lot[::-1] if dice.below(2) else list(lot))
                    bounds.append(fraction_of(told))
                    self.assertEqual(bounds[-1], plain_bound(source, changes, finder, lot))
                self.assertEqual(found, min(bounds))
                count = count + (found not in (bounds[0], bounds[-1]))
        self.assertGreater(count, 50)

    def test_as_told(self):
        for _ in range(2):
            marking, lot = best_writer(source=SOURCE, changes=CHANGES, finder=FINDER)
            self.assertEqual(fraction_of(found_share(CHANGES, marking)), Fraction(7, 8))
            self.assertEqual(lot, ("c",))
        self.assertEqual(marking.entries, ((3, "c", ("c",)), (2, "a", ("a", "b", "z")), (1, "c", ()), (2, "b", ("b",))))
        marking, lot = best_writer(SOURCE, CHANGES, ((5, ()),))
        self.assertEqual((marking.entries, lot), (((1, "a", ()), (1, "b", ()), (2, "c", ())), ("a", "b", "c")))
        marking, lot = best_writer(SOURCE, CHANGES, [[5, ["z", "c", "b", "a"]]])
        told = ("a", "b", "c", "z")
        self.assertEqual((marking.entries, lot), (((1, "a", told), (1, "b", told), (2, "c", told)), ()))

    def test_same_keys_stay_apart(self):
        finder = ((1, ("a",)), (1, ("a",)), (2, ("b", "a")), (1, ("a",)))
        source = Table((("a", 3), ("b", 2)))
        marking, _ = best_writer(source, unchanged(("a", "b")), finder)
        self.assertEqual(fraction_of(found_share(unchanged(("a", "b")), marking)), 1)
        self.assertEqual(marking.entries, (
            (1, "a", ("a",)), (1, "a", ("a",)), (2, "b", ("a", "b")), (1, "a", ("a",))))

    def test_what_was_handed_over_is_taken_back(self):
        # The first key finds both texts, the second one a alone: a has to leave the first to b.
        source, changes = Table((("a", 1), ("b", 1))), unchanged(("a", "b"))
        for finder in (((1, ("a", "b")), (1, ("a",))), ((1, ("a",)), (1, ("a", "b"))), ((1, ("b",)), (1, ("a", "b")))):
            self.assertEqual(self.assert_best(source, changes, finder), 1)
        letters = "abcdefgh"
        source, changes = Table([(text, 1) for text in letters]), unchanged(letters)
        steps = [(1, letters[at:at + 2]) for at in range(7)] + [(1, "a")]
        for finder in (steps, steps[::-1]):
            self.assertEqual(self.assert_best(source, changes, [(weight, tuple(told)) for weight, told in finder]), 1)

    def test_arguments_stay(self):
        finder = [[3, ["c"]], [2, ["z", "b", "a"]], [3, []]]
        lot = ["c", "a"]
        marking, _ = best_writer(SOURCE, CHANGES, finder)
        before = marking.entries
        self.assertEqual(lot_bound(source=SOURCE, changes=CHANGES, finder=finder, lot=lot).written(), "7/8")
        self.assertEqual((finder, lot), ([[3, ["c"]], [2, ["z", "b", "a"]], [3, []]], ["c", "a"]))
        finder[0][1].append("a")
        finder.append([9, []])
        self.assertEqual(marking.entries, before)

    def test_machines(self):
        machine = Machine("ab", 0, (((1, 0), (2, 1)), ((0, 0), (3, 0))), 2)
        changes = Changes((("aa", ()), ("ab", ("aa",)), ("bb", ())))
        self.assertEqual(self.assert_best(machine, changes, ((1, ("aa", "ab")), (1, ("bb",)))), Fraction(5, 6))


class LotBoundTest(unittest.TestCase):

    def test_as_told(self):
        for lot, told in (
            ((), "1"), (("a",), "1"), (("b",), "5/4"), (("c",), "7/8"), (("a", "b"), "1"), (("a", "c"), "7/8"),
            (("b", "a", "c"), "7/8"), (["c", "b", "a"], "7/8"), (("c", "b"), "9/8"),
        ):
            self.assertEqual(lot_bound(SOURCE, CHANGES, FINDER, lot).written(), told)

    def test_large_weights(self):
        one = 10 ** 39
        finder = ((one, ("a", "b", "z")), (3, ("c",)))
        found = fraction_of(lot_bound(SOURCE, CHANGES, finder, ("c",)))
        self.assertEqual(found, Fraction(1, 2) + Fraction(3, one + 3))
        self.assertTrue(lot_bound(SOURCE, CHANGES, finder, ()) == Share(1, 1))


if __name__ == "__main__":
    unittest.main()
