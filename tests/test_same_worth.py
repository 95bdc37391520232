"""Points [12] to [14], [16], [17] and [19] to [22]: where nothing is changed, all ways to the worth meet."""

import unittest
from fractions import Fraction

from marktruly.again import again_marking, again_worth
from marktruly.changes import unchanged
from marktruly.far import Far, FarMarking
from marktruly.judges import accused_at, found_share, gap, seen_at
from marktruly.levels import class_worth, plain_worth
from marktruly.makers import Makers, shared_of
from marktruly.markings import best_marking
from marktruly.packing import best_row, cost, prices, row_sum, worth
from packings import LEVELS, share_from
from rings import RING_LEVELS, ring_sources
from samples import fraction_of
from test_far import SMALL, table_of_all


class SameWorthTest(unittest.TestCase):

    def assert_same(self, source, level):
        told = plain_worth(source, level)
        changes = unchanged(source.texts())
        self.assertTrue(class_worth(source, changes, level) == told)
        self.assertTrue(Makers(source, 1, level).arcs == told)
        self.assertTrue(again_worth(source, 1, level) == told)
        if len(source.texts()) <= 8:
            self.assertTrue(worth(source, changes, level) == told)
            self.assertTrue(row_sum(best_row(source, changes, level)) == told)
            self.assertTrue(cost(source, level, prices(source, changes, level)) == told)
            marking = best_marking(source, changes, level)
            self.assertEqual((seen_at(source, marking), accused_at(marking, level)), (None, None))
            self.assertTrue(found_share(changes, marking) == told)
            self.assertEqual(gap(source, changes, level, marking).written(), "0")
        if len(source.texts()) <= 5:
            self.assertTrue(again_marking(source, 1, level).found_share() == told)
        return told

    def test_tables_and_machines(self):
        for source in ring_sources():
            levels = [share_from(fraction_of(source.share_of(text))) for text in source.texts()[:3]]
            for level in RING_LEVELS + LEVELS[::6] + tuple(levels):
                self.assert_same(source, level)

    def test_far_sources(self):
        for weights, length in SMALL:
            far, source = Far(weights, length), table_of_all(weights, length)
            for level in RING_LEVELS + LEVELS[::6]:
                told = self.assert_same(source, level)
                self.assertTrue(far.worth_at(level) == told)
                marking = FarMarking(far, level)
                arcs = [marking.arc_of(text) for text in source.texts()]
                self.assertEqual(Fraction(sum(end - first for first, end in arcs), marking.ring), fraction_of(told))

    def test_shared_of_one_maker(self):
        count = 0
        for source in ring_sources():
            for level in RING_LEVELS:
                makers = Makers(source, 1, level)
                if makers.ring <= 60:
                    count = count + 1
                    self.assertTrue(shared_of(makers).mean_found() == plain_worth(source, level))
        self.assertGreater(count, 30)


if __name__ == "__main__":
    unittest.main()
