"""Points [1], [2], [4], [19] and [20]: any way to share keys, and that of makers."""

import unittest
from fractions import Fraction
from itertools import product

from marktruly.errors import InvalidPair, MarkError, NoMaker
from marktruly.makers import Makers, Shared, shared_at, shared_of
from marktruly.shares import Share
from marktruly.sources import Table
from packings import Dice
from rings import all_makers, plain_arcs
from samples import HUGE, NO_INTEGERS, fraction_of, shares_of

ENTRIES = (
    ((1, ("a",), ()),),
    ((2, ("b", "a"), (("b", 1), ("a", 1))), (1, ("a", "a"), (("a", 0),)), (3, ("c", "b"), (("z", 1), ("c", 0), ("", 0)))),
    ((10 ** 40, ("", "x y", "~"), ()), (1, ("a", "b", "a"), (("b", 1), ("a", 2))), (10 ** 39, ("~", "", "b"), (("", 2),))),
    ((1, ("a",) * 6, (("a", 5),)), (1, ("b",) * 6, (("a", 5), ("b", 0)))),
)
OTHER_TEXTS = ("zz", "A", "a\n", "not there")


def drawn_shared(many, start):
    """Ways to share keys: 1 to 60 keys, 1 to 6 makers."""
    dice = Dice(start)
    for _ in range(many):
        makers, top = 1 + dice.below(6), (1, 9, 10 ** 40)[dice.below(3)]
        entries = []
        for _ in range(1 + dice.below((4, 60)[dice.below(2)])):
            texts = ["abcd"[dice.below(4)] for _ in range(makers)]
            names = [(text, dice.below(makers)) for text in dice.some("edcba", 2)]
            entries.append((1 + dice.below(top), texts, names))
        yield entries


def listed(entries):
    return [[weight, list(texts), [list(pair) for pair in names]] for weight, texts, names in entries]


class SharedTest(unittest.TestCase):

    def assert_is(self, shared, entries):
        whole, many = sum(entry[0] for entry in entries), len(entries[0][1])
        told = tuple((weight, tuple(texts), tuple(sorted(map(tuple, names)))) for weight, texts, names in entries)
        self.assertEqual(shared.entries, told)
        for part in (shared.entries, *shared.entries, *[part for entry in shared.entries for part in entry[1:]]):
            self.assertIs(tuple, part.__class__)
        self.assertTrue(all(isinstance(pair, tuple) for entry in shared.entries for pair in entry[2]))
        self.assertEqual((shared.whole, shared.many), (whole, many))
        texts = {text for entry in told for text in entry[1]} | {text for entry in told for text, _ in entry[2]}
        means = []
        for maker in range(many):
            for text in sorted(texts) + list(OTHER_TEXTS):
                count = sum(weight for weight, row, _ in told if row[maker] == text)
                self.assertEqual(fraction_of(shared.written_share(maker, text)), Fraction(count, whole))
            count = sum(weight for weight, row, names in told if dict(names).get(row[maker]) == maker)
            means.append(Fraction(count, whole))
            self.assertEqual(fraction_of(shared.found_share(maker)), means[-1])
        self.assertEqual(fraction_of(shared.mean_found()), sum(means) / many)
        for text in sorted(texts) + list(OTHER_TEXTS):
            count = sum(weight for weight, _, names in told if text in dict(names))
            self.assertEqual(fraction_of(shared.named_share(text)), Fraction(count, whole))

    def test_shared(self):
        for entries in ENTRIES:
            for shared in (Shared(entries), Shared(listed(entries)), Shared(entries=list(entries))):
                for _ in range(2):
                    self.assert_is(shared, entries)

    def test_drawn_ones(self):
        for entries in drawn_shared(60, 3):
            self.assert_is(Shared(entries), entries)

    def test_as_told(self):
        shared = Shared(ENTRIES[1])
        self.assertEqual(shared.entries[2][2], (("", 0), ("c", 0), ("z", 1)))
        self.assertEqual([shared.found_share(maker).written() for maker in (0, 1)], ["2/3", "1/3"])
        self.assertEqual((shared.mean_found().written(), shared.named_share("a").written()), ("1/2", "1/2"))

    def test_arguments_by_name(self):
        shared = Shared(ENTRIES[1])
        self.assertEqual(shared.written_share(maker=1, text="a").written(), "1/2")
        self.assertEqual((shared.found_share(maker=0).written(), shared.named_share(text="z").written()), ("2/3", "1/2"))
        self.assertEqual(shared_at(source=Table((("a", 1),)), shared=Shared(ENTRIES[0])), None)
        self.assertEqual(shared_of(makers=Makers(Table((("a", 1),)), 1, Share(1, 2))).whole, 2)

    def test_later_changes_of_what_was_passed(self):
        for entries in ENTRIES:
            passed = listed(entries)
            shared = Shared(passed)
            self.assertEqual(passed, listed(entries))
            passed[0][0] = 99
            passed[-1][1][0] = "zz"
            passed[0][2].append(["zz", 0])
            for pair in passed[-1][2]:
                pair[0] = "zz"
            passed.append([1, ["zz"], []])
            self.assert_is(shared, entries)
            del passed[:]
            self.assert_is(shared, entries)

    def test_wrong_weights(self):
        for weight in (0, -1, -HUGE) + NO_INTEGERS:
            for at in range(3):
                entries = [[1, ["a"], [["b", 0]]], [2, ["a"], []], [3, ["c"], [["c", 0], ["a", 0]]]]
                entries[at][0] = weight
                self.assert_wrong(entries, at)
                self.assert_wrong(tuple(map(tuple, entries)), at)
                entries[at][0] = HUGE
                self.assert_is(Shared(entries), entries)
        self.assert_wrong(((1, ("a",), ()), (None, ("b",), ()), (0, ("c",), ())), 1)
        self.assert_wrong(((True, ("a",), ()), (1, ("b",), ()), (0, ("c",), ())), 0)
        self.assert_wrong([(1, ("a",), ())] * 59 + [("1", ("a",), ())], 59)

    def assert_wrong(self, entries, at):
        before = repr(entries)
        with self.assertRaises(InvalidPair, msg=before) as caught:
            Shared(entries)
        self.assertEqual(caught.exception.at, at)
        self.assertIsInstance(caught.exception, MarkError)
        self.assertEqual(repr(entries), before)

    def test_wrong_makers(self):
        for entries in ENTRIES:
            shared = Shared(entries)
            for maker in (-1, shared.many, shared.many + 1, -shared.many, HUGE, -HUGE) + NO_INTEGERS:
                for ask in (lambda: shared.written_share(maker, "a"), lambda: shared.found_share(maker)):
                    with self.assertRaises(NoMaker) as caught:
                        ask()
                    self.assertEqual(repr(caught.exception.maker), repr(maker))
                    self.assertTrue(isinstance(caught.exception, MarkError) and isinstance(caught.exception, ValueError))
            self.assert_is(shared, entries)


class SharedAtTest(unittest.TestCase):

    def test_as_told(self):
        shared = Shared(((1, ("a", "b"), ()), (1, ("b", "c"), ()), (2, ("c", "c"), ())))
        for pairs, told in (
            ((("a", 1), ("b", 1), ("c", 2)), (1, "a")),
            ((("b", 1), ("c", 3)), (0, "a")),
            ((("a", 1), ("b", 3)), (0, "b")),
            ((("a", 1), ("b", 1), ("d", 2)), (0, "c")),
            ((("a", 1), ("b", 1), ("c", 1), ("d", 1)), (0, "c")),
            ((("", 1), ("a", 1), ("b", 1), ("c", 2)), (0, "")),
        ):
            for _ in range(2):
                self.assertEqual(shared_at(Table(pairs), shared), told)
        shared = Shared(((1, ("a", "c"), ()), (1, ("b", "a"), ()), (2, ("c", "c"), ()), (1, ("c", "b"), ())))
        self.assertIsNone(shared_at(Table((("c", 3), ("b", 1), ("a", 1))), shared))

    def test_drawn_ones(self):
        unseen = 0
        tables = [Table(list(zip("abcd", weights))) for weights in product((1, 2), repeat=4)]
        for entries in list(drawn_shared(40, 9)) + [[(1, [text], ()) for text in "dcba"], [(1, "ab", ()), (1, "ba", ())]]:
            shared = Shared(entries)
            for source in tables + [Table((("a", 1), ("b", 1)))]:
                texts = sorted({*source.texts(), *[text for entry in entries for text in entry[1]]})
                unlike = [(maker, text) for maker in range(shared.many) for text in texts
                          if shared.written_share(maker, text) != source.share_of(text)]
                self.assertEqual(shared_at(source, shared), unlike[0] if unlike else None)
                unseen = unseen + (not unlike)
        self.assertGreater(unseen, 1)


class MakersSharedTest(unittest.TestCase):

    def test_shared_of(self):
        seen = 0
        for makers, source, many, level in all_makers(40):
            seen = seen + 1
            shared, arcs = shared_of(makers), plain_arcs(source, many, level)
            self.assertEqual((shared.whole, shared.many, len(shared.entries)), (makers.ring, many, makers.ring))
            for key, (weight, texts, names) in enumerate(shared.entries):
                self.assertEqual((weight, texts), (1, tuple(makers.write(maker, key) for maker in range(many))))
                told = [(text, makers.who(key, text)) for text in source.texts()]
                self.assertEqual(names, tuple(pair for pair in told if pair[1] is not None))
            self.assertIsNone(shared_at(source, shared))
            for maker in range(many):
                self.assertTrue(shared.found_share(maker) == makers.arcs)
            self.assertTrue(shared.mean_found() == makers.arcs)
            self.assertEqual(fraction_of(makers.arcs), sum(arcs.values()))
            for text in source.texts():
                self.assertEqual(fraction_of(shared.named_share(text)), many * arcs[text])
                for maker in range(many):
                    self.assertEqual(fraction_of(shared.written_share(maker, text)), shares_of(source)[text])
        self.assertGreater(seen, 100)

    def test_a_ring_of_400(self):
        makers = Makers(Table((("a", 1), ("b", 399))), 5, Share(1, 2))
        shared = shared_of(makers)
        self.assertEqual((shared.whole, len(shared.entries)), (400, 400))
        self.assertTrue(shared_at(Table((("a", 1), ("b", 399))), shared) is None and shared.mean_found() == makers.arcs)

    def test_none_finds_more_than_makers(self):
        # Each way to share keys is judged by the source that it shows, at the level of its most named text.
        count = 0
        for at, entries in enumerate(drawn_shared(400, 17)):
            weights, rows = [entry[0] for entry in entries], [entry[1] for entry in entries]
            # Turned round, each row is written by each maker in turn: so all makers write alike.
            many = len(rows[0])
            turned = [(weights[key], rows[key][turn:] + rows[key][:turn], entries[key][2] if at % 2 else names_of(row, turn))
                      for key, row in enumerate(rows) for turn in range(many)]
            shared = Shared(turned)
            whole = sum(weights) * many
            shares = {text: sum(weight for weight, row, _ in turned if row[0] == text) for text in "abcd"}
            source = Table([(text, shares[text]) for text in shares if shares[text]])
            self.assertIsNone(shared_at(source, shared))
            most = max(fraction_of(shared.named_share(text)) for text in "abcde")
            if most > 0:
                count = count + 1
                bound = sum(min(Fraction(shares[text], whole), most / many) for text in shares)
                self.assertLessEqual(fraction_of(shared.mean_found()), bound)
        self.assertGreater(count, 200)


def names_of(row, turn):
    """For each text of a row the first maker that writes it, where the row is turned round."""
    names = {}
    for maker, text in enumerate(row[turn:] + row[:turn]):
        names.setdefault(text, maker)
    return list(names.items())


if __name__ == "__main__":
    unittest.main()
