"""The promises in bold letters, of the overview and of points [12] to [25], one after the other."""

import unittest
from fractions import Fraction
from itertools import combinations, product
from math import prod

from marktruly.again import RowMarking, again_marking, again_worth, row_seen_at
from marktruly.changes import Changes, classes, exchanged, unchanged
from marktruly.errors import NotClasses
from marktruly.far import Far, FarMarking
from marktruly.judges import accused_at, accused_most, blind_share, found_share, gap, seen_at
from marktruly.ledger import Ledger
from marktruly.letters import hit_found, hit_least, hit_tail, hits, letter_write
from marktruly.levels import class_worth, plain_worth
from marktruly.makers import Makers, shared_at, shared_of
from marktruly.markings import Marking, best_marking, marking_of_row, written_table
from marktruly.packing import best_row, cost, price_fault, prices, row_fault, row_sum, worth
from marktruly.shares import Share
from marktruly.sources import Machine, Table
from marktruly.writers import best_writer, lot_bound
from packings import LEVELS, Dice, drawn_markings, packings, share_from, shaped
from samples import fraction_of

SOURCE = Table((("a", 1), ("b", 1), ("c", 2)))
CHANGES = Changes((("a", ("b",)), ("b", ()), ("c", ())))
SOME = packings(12)[::2]
SOME_LEVELS = LEVELS[::5]
RINGS = [(source, many, level) for source in (SOURCE, Table((("", 1),)), Table((("x", 2), ("y", 3), ("z", 5))))
         for many in range(1, 7) for level in (Share(1, 5), Share(1, 2), Share(1, 1), Share(5, 2))]
LETTERS = (
    Machine("ab", 1, (((1, 1), (2, 0)), ((1, 0), (1, 1))), 2), Machine("abc", 0, (((1, 0), (2, 0), (0, 0)),), 2),
    Machine("xy", 0, (((1, 1), (3, 0)), ((2, 0), (0, 0))), 3), Machine("a", 0, (((3, 0),),), 2),
)


def cap(level):
    return min(fraction_of(level), Fraction(1))


class MainPromiseTest(unittest.TestCase):

    def test_example_of_the_overview(self):
        level = Share(1, 4)
        self.assertEqual(worth(SOURCE, unchanged(SOURCE.texts()), level).written(), "3/4")
        self.assertEqual(worth(SOURCE, CHANGES, level).written(), "1/2")
        marking = best_marking(SOURCE, CHANGES, level)
        self.assertEqual((seen_at(SOURCE, marking), found_share(CHANGES, marking).written()), (None, "1/2"))

    def test_the_best_marking_is_unseen_honest_and_finds_the_worth_that_prices_show(self):
        for source, changes in SOME:
            for level in SOME_LEVELS:
                marking = best_marking(source, changes, level)
                self.assertIsNone(seen_at(source, marking))
                self.assertIsNone(accused_at(marking, level))
                paper = prices(source, changes, level)
                self.assertIsNone(price_fault(source, changes, paper))
                self.assertTrue(found_share(changes, marking) == cost(source, level, paper))
                # However a text is changed, whoever has the key knows it as often.
                found = [weight for weight, text, accused in marking.entries if set(changes.of(text)) <= set(accused)]
                self.assertEqual(Fraction(sum(found), marking.whole), fraction_of(worth(source, changes, level)))


class PackingTest(unittest.TestCase):

    def test_12_no_row_is_above_the_cost_of_prices_and_some_are_equal(self):
        dice = Dice(3)
        for source, changes in SOME:
            for level in SOME_LEVELS:
                row, paper = best_row(source, changes, level), prices(source, changes, level)
                self.assertTrue(row_sum(row) == cost(source, level, paper))
                self.assertEqual((row_fault(source, changes, level, row), price_fault(source, changes, paper)), (None, None))
                for _ in range(3):
                    lesser = [(text, share * Share(dice.below(4), 3)) for text, share in row]
                    greater = [[(text, share + Share(dice.below(3), 7)) for text, share in part] for part in paper]
                    if row_fault(source, changes, level, lesser) is None:
                        self.assertFalse(cost(source, level, greater).is_below(row_sum(lesser)))

    def test_14_sums_are_the_worth(self):
        count = 0
        for source, changes in packings(12):
            for level in SOME_LEVELS:
                self.assertTrue(plain_worth(source, level) == worth(source, unchanged(source.texts()), level))
                try:
                    told = class_worth(source, changes, level)
                except NotClasses:
                    continue
                count = count + (len(classes(changes)) < len(changes.texts()))
                self.assertTrue(told == worth(source, changes, level))
        self.assertGreater(count, 20)

    def test_14_how_the_worth_grows(self):
        for source, changes in SOME:
            levels = sorted([fraction_of(level) for level in SOME_LEVELS])
            found = [fraction_of(worth(source, changes, share_from(level))) for level in levels]
            self.assertEqual(found, sorted(found))
            for at, level in enumerate(levels):
                self.assertTrue(min(level, 1) <= found[at] <= fraction_of(plain_worth(source, share_from(level))))
            for low, mid, high in combinations(range(len(levels)), 3):
                part = (levels[mid] - levels[low]) / (levels[high] - levels[low])
                self.assertGreaterEqual(found[mid], found[low] + part * (found[high] - found[low]))
            wider = Changes([(text, changes.of(text) + source.texts()[:1]) for text in changes.texts()])
            for at, level in enumerate(levels):
                self.assertLessEqual(fraction_of(worth(source, wider, share_from(level))), found[at])


class MarkingTest(unittest.TestCase):

    def test_16_gap_and_shares_of_any_marking(self):
        for marking, changes in drawn_markings(80, 41):
            source, most = written_table(marking), accused_most(marking)
            if most.over > 0:
                told = worth(source, changes, most)
                found, blind = found_share(changes, marking), blind_share(changes, marking)
                self.assertFalse(blind.is_below(found) or told.is_below(blind))
                self.assertFalse(gap(source, changes, most, marking).is_below(Share(0, 1)))

    def test_17_the_marking_of_a_row(self):
        dice = Dice(8)
        for source, changes in SOME:
            for level in SOME_LEVELS:
                row = [(text, share * Share(dice.below(5), 4)) for text, share in best_row(source, changes, level)]
                row = [(text, source.share_of(text) if source.share_of(text).is_below(share) else share) for text, share in row]
                marking = marking_of_row(source, changes, row)
                self.assertIsNone(seen_at(source, marking))
                self.assertTrue(found_share(changes, marking) == row_sum(row))
                for other in LEVELS:
                    if row_fault(source, changes, other, row) is None:
                        self.assertIsNone(accused_at(marking, other))

    def test_18_the_lot_of_the_best_writer(self):
        dice = Dice(18)
        for source, changes in list(shaped())[:30]:
            finder = [(1 + dice.below(5), dice.some(changes.readable(), 2)) for _ in range(4)]
            marking, lot = best_writer(source, changes, finder)
            found = found_share(changes, marking)
            self.assertTrue(found == lot_bound(source, changes, finder, lot))
            texts = source.texts()
            for other in [one for many in range(len(texts) + 1) for one in combinations(texts, many)]:
                self.assertFalse(lot_bound(source, changes, finder, other).is_below(found))


class MakersTest(unittest.TestCase):

    def test_19_makers(self):
        for source, many, level in RINGS:
            makers = Makers(source, many, level)
            keys = range(makers.ring)
            for maker in range(many):
                wrote = [makers.write(maker, key) for key in keys]
                for text in source.texts():
                    self.assertEqual(Fraction(wrote.count(text), makers.ring), fraction_of(source.share_of(text)))
                found = sum(makers.who(key, wrote[key]) == maker for key in keys)
                self.assertEqual(Fraction(found, makers.ring), fraction_of(makers.arcs))
            for text in source.texts():
                named = sum(makers.who(key, text) is not None for key in keys)
                self.assertLessEqual(Fraction(named, makers.ring), cap(level))
                for maker, other in product(range(many), repeat=2):
                    if maker != other:
                        self.assertLessEqual(fraction_of(makers.credited(maker, other, text)), cap(level) / many)

    def test_20_no_way_to_share_keys_finds_more(self):
        for source, many, level in RINGS:
            makers = Makers(source, many, level)
            if makers.ring <= 400:
                shared = shared_of(makers)
                self.assertIsNone(shared_at(source, shared))
                named = [fraction_of(shared.named_share(text)) for text in source.texts()]
                self.assertLessEqual(max(named), cap(level))
                bound = sum(min(fraction_of(source.share_of(text)), cap(level) / many) for text in source.texts())
                self.assertEqual(fraction_of(shared.mean_found()), bound)

    def test_21_rows(self):
        dice = Dice(2)
        for level in LEVELS[::2]:
            found = [again_worth(SOURCE, many, level) for many in range(1, 7)]
            self.assertFalse(any(one.is_below(other) for one, other in zip(found, found[1:])))
            self.assertTrue(found[0] == plain_worth(SOURCE, level))
            for many in (1, 2, 3):
                rows = again_marking(SOURCE, many, level)
                self.assertIsNone(row_seen_at(SOURCE, rows))
                self.assertTrue(rows.found_share() == found[many - 1])
        for many in (1, 2, 3):
            for _ in range(40):
                entries = [(prod(map(SOURCE.weight_of, row)), row, dice.some(sorted(set(row)), 2))
                           for row in product("abc", repeat=many) for _ in range(2)]
                rows = RowMarking(entries)
                most = max(fraction_of(rows.accused_share(text)) for text in "abc")
                self.assertIsNone(row_seen_at(SOURCE, rows))
                if most > 0:
                    self.assertFalse(again_worth(SOURCE, many, share_from(most)).is_below(rows.found_share()))

    def test_22_far_markings_are_one_maker(self):
        for weights, length in (((1, 2), 3), ((3, 1, 1), 2), ((5, 7), 1)):
            texts = ["".join(letters) for letters in product("abc"[:len(weights)], repeat=length)]
            table = Table([(text, prod(weights["abc".index(letter)] for letter in text)) for text in texts])
            for level in (Share(1, 20), Share(1, 9), Share(1, 2), Share(3, 1)):
                marking, makers = FarMarking(Far(weights, length), level), Makers(table, 1, level)
                self.assertEqual(marking.ring, makers.ring)
                for key in range(min(marking.ring, 600)):
                    self.assertEqual(marking.write(key), makers.write(0, key))
                    for text in (makers.write(0, key), texts[0], "other"):
                        self.assertIs(marking.accuses(key, text), makers.who(key, text) == 0)


class LettersTest(unittest.TestCase):

    def test_23_letters(self):
        for machine in LETTERS:
            q = len(machine.alphabet)
            keys = list(product(product(range(q), range(machine.unit)), repeat=machine.length))
            wrote = [letter_write(machine, key) for key in keys]
            for text in map("".join, product(machine.alphabet, repeat=machine.length)):
                self.assertEqual(Fraction(wrote.count(text), len(keys)), fraction_of(machine.share_of(text)))
                for least in range(machine.length + 2):
                    many = sum(hits(machine.alphabet, machine.unit, key, text) >= least for key in keys)
                    self.assertEqual(Fraction(many, len(keys)), fraction_of(hit_tail(q, machine.length, least)))
            if q > 1:
                self.assert_found(machine, keys, wrote)

    def assert_found(self, machine, keys, wrote):
        for most in range(3):
            changes = exchanged(machine.texts(), machine.alphabet, most)
            for level in LEVELS[::3]:
                least = hit_least(len(machine.alphabet), machine.length, level)
                many = sum(all(hits(machine.alphabet, machine.unit, key, told) >= least for told in changes.of(text))
                           for key, text in zip(keys, wrote))
                found = hit_found(machine, level, most)
                self.assertEqual(fraction_of(found), Fraction(many, len(keys)))
                self.assertFalse(worth(machine, changes, level).is_below(found))


class LedgerTest(unittest.TestCase):

    def test_25_ledgers_come_back(self):
        marking = Marking(((1, "b", ("a", "b")), (2, "a", ("a",)), (3, "b", ("c", "b")), (2, "c", ())))
        first = Ledger(marking)
        for number in (0, 7, 3, 4):
            first.issue(number)
        first.withdraw(1)
        first.withdraw(0)
        first.restore(1)
        journal = first.journal()
        for cut in range(len(journal) + 1):
            back, other = Ledger.come_back(marking, journal[:cut]), Ledger(marking)
            for deed, number in journal[:cut]:
                {"issue": other.issue, "withdraw": other.withdraw, "restore": other.restore}[deed](number)
            for _ in range(2):
                self.assertEqual(self.told(back), self.told(other))
                self.assertEqual((back.issue(2), back.withdraw(0)), (other.issue(2), other.withdraw(0)))
        self.assertEqual(first.journal(), journal)

    def told(self, ledger):
        tickets = range(sum(deed == "issue" for deed, _ in ledger.journal()))
        return (len(ledger), ledger.journal(), [(ledger.key_of(at), ledger.text_of(at)) for at in tickets],
                [(ledger.asked(text), ledger.chance(text).written()) for text in "abcd"])


if __name__ == "__main__":
    unittest.main()
