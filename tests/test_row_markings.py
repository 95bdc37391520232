"""Points [1], [2], [4], [15] and [21]: markings of rows, and those that show nothing and find the most."""

import unittest
from fractions import Fraction
from itertools import product
from math import prod

from marktruly.again import RowMarking, again_marking, again_worth, row_seen_at
from marktruly.errors import InvalidPair, MarkError
from marktruly.levels import plain_worth
from marktruly.shares import Share
from marktruly.sources import Machine, Table
from packings import LEVELS, Dice, capped, share_from
from samples import HUGE, NO_INTEGERS, fraction_of, shares_of

ONE = 10 ** 39
ENTRIES = (
    ((1, ("a",), ()),),
    ((2, ("b", "a"), ("c", "a", "b")), (1, ("a", "a"), ("a",)), (3, ("b", "b"), ())),
    ((10 ** 40, ("", "x y", ""), ("~", " ", "")), (1, ("a", "b", "a"), ("b", "a"))),
    tuple((at * at % 17 + 1, tuple("abcdefg"[at % 7:][:1] * 6), ("b", "a")[:at % 3]) for at in range(60)),
)
TABLES = (
    (("a", 1),),
    (("a", 1), ("b", 1)),
    (("b", 2), ("a", 1)),
    (("", 1), ("a", 3), ("aa", 2)),
    (("a", 5), ("b", 1), ("c", 1), ("d", 1)),
    (("a", ONE), ("b", ONE + 1), ("c", 3 * ONE)),
    (("a", 7), ("b", 1), ("c", 2), ("d", 4), ("e", 1)),
    tuple((text, ONE + 3 ** at) for at, text in enumerate("edcba")),
)


def some_sources():
    machines = [Machine("ab", 0, (((1, 0), (2, 1)), ((0, 0), (3, 0))), 3), Machine("ab", 0, (((1, 0), (0, 0)),), 2)]
    return [Table(pairs) for pairs in TABLES] + machines


def listed(entries):
    return [[weight, list(row), list(accused)] for weight, row, accused in entries]


class RowMarkingTest(unittest.TestCase):

    def assert_is(self, rows, entries):
        whole, many = sum(entry[0] for entry in entries), len(entries[0][1])
        told = tuple((weight, tuple(row), tuple(sorted(accused))) for weight, row, accused in entries)
        self.assertEqual(rows.entries, told)
        for part in (rows.entries, *rows.entries, *[part for entry in rows.entries for part in entry[1:]]):
            self.assertIs(tuple, part.__class__)
        self.assertEqual((len(rows), rows.whole, rows.many), (len(entries), whole, many))
        for row in sorted({entry[1] for entry in told}) + [("zz",) * many, ("a",) * (many + 1), ()]:
            count = sum(weight for weight, other, _ in told if other == row)
            self.assertEqual(fraction_of(rows.row_share(row)), Fraction(count, whole))
            self.assertEqual(fraction_of(rows.row_share(list(row))), Fraction(count, whole))
        for text in sorted({text for entry in told for text in entry[1] + entry[2]}) + ["zz", "A", "not there"]:
            count = sum(weight for weight, _, accused in told if text in accused)
            self.assertEqual(fraction_of(rows.accused_share(text)), Fraction(count, whole))
        found = [sum(weight for weight, row, accused in told if row[at] in accused) for at in range(many)]
        self.assertEqual(fraction_of(rows.found_share()), Fraction(sum(found), whole * many))

    def test_row_markings(self):
        for entries in ENTRIES:
            for rows in (RowMarking(entries), RowMarking(listed(entries)), RowMarking(entries=list(entries))):
                for _ in range(2):
                    self.assert_is(rows, entries)

    def test_as_told(self):
        rows = RowMarking(ENTRIES[1])
        self.assertEqual((len(rows), rows.whole, rows.many), (3, 6, 2))
        self.assertEqual((rows.row_share(row=("a", "a")).written(), rows.row_share(("a", "b")).written()), ("1/6", "0"))
        self.assertEqual((rows.accused_share(text="a").written(), rows.found_share().written()), ("1/2", "1/2"))

    def test_later_changes_of_what_was_passed(self):
        for entries in ENTRIES:
            passed = listed(entries)
            rows = RowMarking(passed)
            self.assertEqual(passed, listed(entries))
            passed[0][0] = 99
            passed[-1][1][0] = "zz"
            passed[0][2].append("zz")
            passed.append([1, ["zz"], ["zz"]])
            self.assert_is(rows, entries)
            del passed[:]
            self.assert_is(rows, entries)

    def test_wrong_weights(self):
        for weight in (0, -1, -HUGE) + NO_INTEGERS:
            for at in range(3):
                entries = [[1, ["a", "b"], ["b"]], [2, ["a", "a"], []], [3, ["c", "a"], ["c", "a"]]]
                entries[at][0] = weight
                self.assert_wrong(entries, at)
                self.assert_wrong(tuple(map(tuple, entries)), at)
                entries[at][0] = HUGE
                self.assert_is(RowMarking(entries), entries)
        self.assert_wrong(((1, ("a",), ()), (None, ("b",), ()), (0, ("c",), ())), 1)
        self.assert_wrong([(1, ("a",), ())] * 59 + [(False, ("a",), ())], 59)

    def assert_wrong(self, entries, at):
        before = repr(entries)
        with self.assertRaises(InvalidPair, msg=before) as caught:
            RowMarking(entries)
        self.assertEqual(caught.exception.at, at)
        self.assertTrue(isinstance(caught.exception, MarkError) and isinstance(caught.exception, ValueError))
        self.assertEqual(repr(entries), before)


def plain_seen(source, rows):
    """What row_seen_at has to tell, by its plain meaning."""
    shares = shares_of(source)
    asked = {*product(sorted(shares), repeat=rows.many), *[entry[1] for entry in rows.entries]}
    for row in sorted(asked):
        written = sum(weight for weight, other, _ in rows.entries if other == row)
        if Fraction(written, rows.whole) != prod(shares.get(text, 0) for text in row):
            return row
    return None


class RowSeenTest(unittest.TestCase):

    def test_as_told(self):
        source = Table((("b", 1), ("a", 1)))
        for entries, told in (
            (((1, ("a", "a"), ()), (1, ("a", "b"), ()), (1, ("b", "a"), ()), (1, ("b", "b"), ())), None),
            (((1, ("b", "b"), ()), (1, ("b", "a"), ("a",)), (1, ("a", "b"), ()), (1, ("a", "a"), ())), None),
            (((1, ("a", "a"), ()), (1, ("b", "b"), ())), ("a", "a")),
            (((1, ("a", "a"), ()), (3, ("b", "b"), ())), ("a", "b")),
            (((1, ("a", "a"), ()), (1, ("a", "b"), ()), (2, ("b", "a"), ())), ("b", "a")),
            (((1, ("a", "a"), ()), (1, ("a", "b"), ()), (1, ("aa", "a"), ()), (1, ("b", "b"), ())), ("aa", "a")),
            (((1, ("a", "a"), ()), (1, ("a", "b"), ()), (1, ("b", "a"), ()), (1, ("b", "c"), ())), ("b", "b")),
            (((4, ("", ""), ()), (1, ("b", "b"), ())), ("", "")),
        ):
            for _ in range(2):
                self.assertEqual(row_seen_at(source=source, rows=RowMarking(entries)), told)
        self.assertEqual(row_seen_at(Table((("a", 1),)), RowMarking(((2, ("a", "b"), ()),))), ("a", "a"))
        six = Table([(text, 1) for text in "abcdef"])
        entries = [(1, row, ()) for row in product("fedcba", repeat=3)]
        self.assertIsNone(row_seen_at(six, RowMarking(entries)))
        self.assertEqual(row_seen_at(six, RowMarking(entries[:-1] + [(1, ("f", "f", "e"), ())])), ("a", "a", "a"))

    def test_drawn_ones(self):
        dice, found = Dice(4), {}
        for _ in range(150):
            many, source = 1 + dice.below(3), Table(TABLES[dice.below(4)])
            drawn = [(prod(source.weight_of(text) for text in row), row, ()) for row in product(source.texts(), repeat=many)]
            if dice.below(3):
                at, step = dice.below(len(drawn)), dice.below(3)
                drawn[at] = (drawn[at][0] + step, drawn[at][1], ("a",))
            rows = RowMarking(drawn[::-1] if dice.below(2) else drawn)
            told = row_seen_at(source, rows)
            self.assertEqual(told, plain_seen(source, rows))
            found[told is None] = found.get(told is None, 0) + 1
        self.assertGreater(min(found.values()), 30)


class AgainMarkingTest(unittest.TestCase):

    def assert_best(self, source, many, level):
        rows = again_marking(source, many, level)
        self.assertIs(RowMarking, rows.__class__)
        self.assertEqual(rows.many, many)
        self.assertIsNone(plain_seen(source, rows))
        self.assertIsNone(row_seen_at(source, rows))
        for text in sorted({text for entry in rows.entries for text in entry[2]}):
            self.assertLessEqual(fraction_of(rows.accused_share(text)), capped(level))
        self.assertTrue(rows.found_share() == again_worth(source, many, level))
        for weight, _, accused in rows.entries:
            self.assertTrue(isinstance(weight, int) and weight > 0 and len(set(accused)) == len(accused))
        if many == 1:
            self.assertTrue(rows.found_share() == plain_worth(source, level))

    def test_all(self):
        for source in some_sources():
            for many in (1, 2, 3):
                for level in LEVELS[::2]:
                    self.assert_best(source, many, level)

    def test_levels_at_and_beside_what_comes(self):
        unit = Fraction(1, 10 ** 9)
        for source in some_sources()[:5]:
            for many in (2, 3):
                shares = [share ** many for share in shares_of(source).values()]
                for level in [share + step for share in shares for step in (-unit, 0, unit)]:
                    self.assert_best(source, many, share_from(level))

    def test_by_name_and_again(self):
        source = Table(TABLES[2])
        found = [again_marking(source=source, many=2, level=Share(1, 3)).entries for _ in range(2)]
        self.assertEqual(found[0], found[1])

    def test_no_row_marking_finds_more(self):
        # Rows come as they should, each with all that a row may accuse as often as drawn: judged at the most accused.
        dice, count = Dice(12), 0
        for _ in range(300):
            source, many = Table(TABLES[dice.below(5)]), 1 + dice.below(3)
            entries = []
            for row in product(source.texts(), repeat=many):
                weight = prod(source.weight_of(text) for text in row)
                parts = [1 + dice.below(4) for _ in range(1 + dice.below(3))]
                for part in parts:
                    share = Fraction(weight * part, sum(parts)) * 5 * 6 * 7 * 8 * 9 * 11
                    entries.append((int(share), row, dice.some(sorted(set(row)), 1 + dice.below(3))))
            rows = RowMarking(entries)
            self.assertIsNone(row_seen_at(source, rows))
            most = max(fraction_of(rows.accused_share(text)) for text in source.texts())
            if most > 0:
                count = count + 1
                worth = fraction_of(again_worth(source, many, share_from(most)))
                self.assertLessEqual(fraction_of(rows.found_share()), worth)
        self.assertGreater(count, 200)


if __name__ == "__main__":
    unittest.main()
