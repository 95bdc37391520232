"""Points [1], [2], [3] and [6]: tables."""

import unittest
from fractions import Fraction

from marktruly.errors import InvalidNumber, InvalidPair, MarkError
from marktruly.sources import Table
from samples import HUGE, NO_INTEGERS, SIGNS, TABLES, fraction_of

OTHER_TEXTS = ("zz", "aab", "A", "  ", "0", "~~", "abcdefghij", "not there", "a\n", "%")


class TableTest(unittest.TestCase):

    def assert_is(self, table, pairs):
        weights = dict(pairs)
        whole = sum(weights.values())
        self.assertEqual(table.whole, whole)
        self.assertEqual(table.texts(), tuple(sorted(weights)))
        for text in sorted(weights):
            self.assertEqual(table.weight_of(text), weights[text])
            self.assertEqual(fraction_of(table.share_of(text)), Fraction(weights[text], whole))
        for text in OTHER_TEXTS:
            self.assertNotIn(text, weights)
            self.assertEqual(table.weight_of(text), 0)
            self.assertEqual(fraction_of(table.share_of(text)), 0)

    def test_tables(self):
        for pairs in TABLES:
            for table in (Table(pairs), Table([list(pair) for pair in pairs]), Table(pairs=list(pairs))):
                for _ in range(2):
                    self.assert_is(table, pairs)

    def test_arguments_by_name(self):
        table = Table(TABLES[1])
        self.assertEqual(table.weight_of(text="c"), 2)
        self.assertEqual(fraction_of(table.share_of(text="c")), Fraction(1, 2))
        self.assertEqual(table.drawn(number=3), "c")

    def test_two_tables_in_turn(self):
        one, other = Table(TABLES[1]), Table(TABLES[3])
        for _ in range(2):
            self.assert_is(one, TABLES[1])
            self.assert_is(other, TABLES[3])

    def test_every_sign_is_a_text(self):
        table = Table([(sign, at + 1) for at, sign in enumerate(SIGNS)])
        self.assertEqual(table.texts(), tuple(SIGNS))
        self.assertEqual([table.weight_of(sign) for sign in SIGNS], list(range(1, 95)))

    def test_later_changes_of_what_was_passed(self):
        pairs = [["b", 2], ["a", 1]]
        table = Table(pairs)
        pairs[0][1] = 5
        pairs[1][0] = "d"
        pairs.append(["c", 3])
        self.assert_is(table, (("a", 1), ("b", 2)))
        del pairs[:]
        self.assert_is(table, (("a", 1), ("b", 2)))

    def test_what_was_passed_stays(self):
        pairs = [["b", 2], ["a", 1]]
        Table(pairs).drawn(1)
        self.assertEqual(pairs, [["b", 2], ["a", 1]])

    def test_drawn_every_number(self):
        for pairs in TABLES:
            if sum(weight for _, weight in pairs) < 200:
                dealt = [text for text, weight in sorted(pairs) for _ in range(weight)]
                table = Table(pairs)
                self.assertEqual([table.drawn(number) for number in range(len(dealt))], dealt)

    def test_drawn_first_and_last_of_each_block(self):
        for pairs in TABLES:
            table = Table(pairs)
            ends, first = [], 0
            for text, weight in sorted(pairs):
                ends = ends + [(first, text), (first + weight - 1, text)]
                first = first + weight
            for number, text in ends + ends[::-1]:
                self.assertEqual(table.drawn(number), text)
            self.assert_is(table, pairs)

    def test_drawn_with_wrong_numbers(self):
        for pairs in TABLES:
            table = Table(pairs)
            for number in (-1, table.whole, table.whole + 1, -table.whole, HUGE, -HUGE) + NO_INTEGERS:
                with self.assertRaises(InvalidNumber) as caught:
                    table.drawn(number)
                self.assertEqual(repr(caught.exception.number), repr(number))
                self.assertIsInstance(caught.exception, MarkError)
            self.assert_is(table, pairs)

    def test_error_keeps_the_number_as_it_was(self):
        number = [0, [1]]
        with self.assertRaises(InvalidNumber) as caught:
            Table(TABLES[0]).drawn(number)
        number[1].append(2)
        self.assertEqual(caught.exception.number, [0, [1]])

    def test_wrong_weights(self):
        for weight in (0, -1, -HUGE) + NO_INTEGERS:
            for at in range(3):
                pairs = [["a", 1], ["b", 2], ["c", 3]]
                pairs[at][1] = weight
                self.assert_wrong(pairs, at)
                self.assert_wrong(tuple(map(tuple, pairs)), at)
                pairs[at][1] = 9
                self.assert_is(Table(pairs), pairs)

    def test_weights_of_many_digits(self):
        self.assert_is(Table((("a", HUGE), ("b", 1))), (("a", HUGE), ("b", 1)))

    def test_repeated_texts(self):
        for pairs, at in (
            ((("a", 1), ("a", 1)), 1),
            ((("a", 1), ("b", 1), ("a", 2)), 2),
            ((("a", 1), ("b", 1), ("b", 2), ("a", 1)), 2),
            ((("", 1), ("a", 1), ("", 0)), 2),
        ):
            self.assert_wrong(pairs, at)
            mended = pairs[:at] + (("d", 4),)
            self.assert_is(Table(mended), mended)

    def test_first_place_of_several_faults(self):
        self.assert_wrong((("a", 1), ("b", None), ("a", 1), ("c", 0)), 1)
        self.assert_wrong((("a", 1), ("a", 1), ("c", 0)), 1)
        self.assert_wrong((("a", True), ("a", 1)), 0)
        self.assert_wrong((("b", 1), ("a", 0), ("a", 1)), 1)

    def assert_wrong(self, pairs, at):
        before = repr(pairs)
        with self.assertRaises(InvalidPair, msg=before) as caught:
            Table(pairs)
        self.assertEqual(caught.exception.at, at)
        self.assertEqual(repr(pairs), before)


if __name__ == "__main__":
    unittest.main()
