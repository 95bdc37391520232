"""Points [3], [6], [7] and [8]: tables that are made of sources."""

import unittest
from fractions import Fraction

from marktruly.changes import Changes, exchanged, put_in, struck, unchanged
from marktruly.errors import UnknownText
from marktruly.shares import Share
from marktruly.sources import Machine, Table, alike, behind, led, mixed, table_of
from samples import MACHINES, divisor_of, shares_of, sources


class MadeTest(unittest.TestCase):

    def assert_table(self, table, shares):
        """The table has just these Fractions above 0, and weights without a common divisor."""
        shares = {text: share for text, share in shares.items() if share > 0}
        self.assertIs(Table, table.__class__)
        self.assertEqual(table.texts(), tuple(sorted(shares)))
        self.assertEqual(shares_of(table), shares)
        self.assertEqual(divisor_of(table), 1)

    def test_table_of(self):
        for source in sources():
            before = shares_of(source)
            for _ in range(2):
                self.assert_table(table_of(source), before)
            self.assert_table(table_of(source=source), before)
            self.assertEqual(shares_of(source), before)

    def test_table_of_divides_the_weights(self):
        table = table_of(Table((("b", 30), ("a", 20), ("c", 50))))
        self.assertEqual((table.weight_of("a"), table.weight_of("b"), table.weight_of("c"), table.whole), (2, 3, 5, 10))
        self.assertEqual(table_of(Table((("x", 7),))).whole, 1)

    def test_mixed(self):
        parts = [(0, 1), (1, 1), (1, 2), (2, 3), (10 ** 39, 10 ** 40 - 1), (1, 10 ** 39)]
        for source in sources():
            for other in sources():
                one, two = shares_of(source), shares_of(other)
                for over, under in parts:
                    part = Fraction(over, under)
                    shares = {text: one.get(text, 0) * part + two.get(text, 0) * (1 - part) for text in {**one, **two}}
                    self.assert_table(mixed(source, other, Share(over, under)), shares)
                self.assertEqual((shares_of(source), shares_of(other)), (one, two))

    def test_mixed_as_told(self):
        source, other = Table((("a", 1), ("b", 1))), Table((("b", 1), ("c", 3)))
        table = mixed(source=source, other=other, part=Share(1, 3))
        self.assert_table(table, {"a": Fraction(1, 6), "b": Fraction(1, 3), "c": Fraction(1, 2)})
        self.assertEqual(table.whole, 6)
        self.assertEqual(mixed(source, other, Share(0, 1)).texts(), ("b", "c"))
        self.assertEqual(mixed(source, other, Share(1, 1)).texts(), ("a", "b"))

    def test_behind(self):
        for source in sources():
            for other in sources():
                one, two = shares_of(source), shares_of(other)
                shares = {}
                for front, share in one.items():
                    for back, rest in two.items():
                        shares[front + back] = shares.get(front + back, 0) + share * rest
                self.assert_table(behind(source, other), shares)
                self.assertEqual((shares_of(source), shares_of(other)), (one, two))

    def test_behind_puts_equal_texts_together(self):
        source, other = Table((("a", 1), ("ab", 1))), Table((("bc", 1), ("c", 2)))
        table = behind(source=source, other=other)
        self.assert_table(table, {"abc": Fraction(1, 2), "ac": Fraction(1, 3), "abbc": Fraction(1, 6)})
        self.assertEqual(behind(other, source).texts(), ("bca", "bcab", "ca", "cab"))

    def test_behind_of_what_was_returned(self):
        source = Machine(*MACHINES[8])
        self.assertEqual(len(source.texts()), 64)
        table = behind(source, source)
        self.assertEqual(len(table.texts()), 4096)
        self.assertEqual(table.share_of("000000111111"), source.share_of("000000") * source.share_of("111111"))
        self.assertTrue(alike(table, table_of(table)))

    def test_led(self):
        for source in sources():
            texts = source.texts()
            spread = [(text, [text[:k] for k in range(at % 4)] + ["", "new"]) for at, text in enumerate(texts)]
            for changes in (
                unchanged(texts), exchanged(texts, "ab", 1), struck(texts, 1), put_in(texts, "a", 1), Changes(spread),
                Changes([("unlike", ("a",))] + [(text, texts) for text in texts]),
            ):
                before, readable = shares_of(source), [changes.of(text) for text in texts]
                shares = {}
                for text, share in before.items():
                    for told in changes.of(text):
                        shares[told] = shares.get(told, 0) + share / len(changes.of(text))
                self.assert_table(led(source, changes), shares)
                self.assertEqual(shares_of(source), before)
                self.assertEqual([changes.of(text) for text in texts], readable)

    def test_led_as_told(self):
        source = Table((("a", 1), ("b", 2)))
        table = led(source=source, changes=Changes((("a", ("b", "c")), ("b", ("a",)), ("z", ()))))
        self.assert_table(table, {"a": Fraction(4, 9), "b": Fraction(4, 9), "c": Fraction(1, 9)})

    def test_led_without_a_row(self):
        source = Table((("d", 1), ("c", 1), ("b", 1), ("a", 1)))
        for texts, text in ((("a", "d"), "b"), ((), "a"), (("b", "c", "d"), "a"), (("a", "b", "c"), "d")):
            changes = Changes([(told, ("a", "b", "c", "d")) for told in texts])
            with self.assertRaises(UnknownText) as caught:
                led(source, changes)
            self.assertEqual(caught.exception.text, text)
            self.assertEqual(changes.texts(), tuple(sorted(texts)))

    def test_led_asks_only_texts_with_a_share(self):
        machine = Machine("ab", 0, (((0, 0), (1, 0)),), 2)
        self.assert_table(led(machine, Changes((("bb", ("aa",)),))), {"bb": Fraction(1, 2), "aa": Fraction(1, 2)})
        with self.assertRaises(UnknownText) as caught:
            led(machine, Changes((("aa", ("bb",)),)))
        self.assertEqual(caught.exception.text, "bb")

    def test_alike(self):
        for at, source in enumerate(sources()):
            self.assertIs(alike(source, source), True)
            self.assertIs(alike(source, table_of(source)), True)
            self.assertIs(alike(table_of(source), source), True)
            for place, other in enumerate(sources()):
                expected = shares_of(source) == shares_of(other)
                self.assertIs(alike(source, other), expected, (at, place))

    def test_alike_as_told(self):
        table = Table((("a", 1), ("b", 2)))
        self.assertIs(alike(source=table, other=Table((("b", 20), ("a", 10)))), True)
        self.assertIs(alike(table, Table((("a", 2), ("b", 1)))), False)
        self.assertIs(alike(table, Table((("a", 1), ("c", 2)))), False)
        self.assertIs(alike(table, Table((("a", 1), ("b", 2), ("c", 1)))), False)
        self.assertIs(alike(Table((("a", 1), ("b", 2), ("c", 1))), table), False)
        self.assertIs(alike(table, Machine("ab", 0, (((1, 0), (2, 0)),), 1)), True)
        self.assertIs(alike(Machine("ab", 0, (((1, 0), (2, 0)),), 1), table), True)
        # Equal weights do not make equal shares: the last text tells the sources apart.
        self.assertIs(alike(Table((("a", 1), ("b", 2))), Table((("a", 1), ("b", 3)))), False)


if __name__ == "__main__":
    unittest.main()
