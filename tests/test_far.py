"""Points [1] to [3], [14] and [22]: far sources."""

import unittest
from fractions import Fraction
from itertools import product
from math import comb, prod

from marktruly.far import Far
from marktruly.levels import plain_worth
from marktruly.shares import Share
from marktruly.sources import Table
from packings import LEVELS, capped, share_from
from samples import fraction_of

SMALL = (
    ((1, 1), 0), ((1, 60), 1), ((2, 1), 3), ((1, 1), 4), ((60, 59), 4), ((1, 1, 1), 0), ((1, 1, 1), 2), ((3, 1, 2), 2),
    ((60, 1, 7), 2), ((4, 2), 2), ((1, 1, 1), 1),
)
LARGER = (((1, 2), 8), ((5, 3), 10), ((1, 2, 3), 6), ((1, 1, 60), 5))


def far_shares(weights, length):
    """The Fractions of the texts of a far source, over all texts."""
    pairs = [(letter, Fraction(weight, sum(weights))) for letter, weight in zip("abc", weights)]
    return {"".join([letter for letter, _ in row]): prod([share for _, share in row], start=Fraction(1))
            for row in product(pairs, repeat=length)}


def table_of_all(weights, length):
    """The table of the texts of a far source."""
    whole = sum(weights) ** length
    return Table([(text, int(share * whole)) for text, share in far_shares(weights, length).items()])


def beside(share):
    """This Fraction, one unit of 39 digits below it, one above it; those of 0 and below are left out."""
    unit = Fraction(1, 10 ** 39)
    return [level for level in (share - unit, share, share + unit) if level > 0]


class FarTest(unittest.TestCase):

    def test_shares_of_all_texts(self):
        for weights, length in SMALL + LARGER:
            far, shares = Far(weights, length), far_shares(weights, length)
            for text in shares:
                self.assertEqual(fraction_of(far.share_of(text)), shares[text])
            self.assertEqual(sum(shares.values()), 1)
            others = ["a" * (length + 1), "c" * length, "d" * length, "B" * length, "a" * length + "\n", "abcd", "zz"]
            for text in others + [text[:-1] for text in shares] + [" " + text[1:] for text in shares]:
                if text not in shares:
                    self.assertEqual(fraction_of(far.share_of(text)), 0)

    def test_shares_of_long_texts(self):
        far = Far((60, 1), 200)
        self.assertEqual(fraction_of(far.share_of("a" * 200)), Fraction(60, 61) ** 200)
        self.assertEqual(fraction_of(far.share_of("ab" * 100)), Fraction(60, 61 * 61) ** 100)
        self.assertEqual(fraction_of(far.share_of("a" * 199)), 0)
        self.assertEqual(fraction_of(far.share_of("a" * 199 + "c")), 0)
        far = Far((1, 2, 60), 12)
        self.assertEqual(fraction_of(far.share_of("cab" * 4)), Fraction(120, 63 ** 3) ** 4)

    def test_arguments_by_name_and_later_changes(self):
        weights = [1, 2]
        far = Far(weights=weights, length=2)
        for _ in range(2):
            self.assertEqual(far.share_of(text="ab").written(), "2/9")
            self.assertEqual(far.worth_at(level=Share(1, 9)).written(), "4/9")
            weights[0] = 50
            weights.append(4)
        self.assertEqual(weights, [50, 2, 4, 4])

    def test_worth_over_all_texts(self):
        for weights, length in SMALL + LARGER:
            far, shares = Far(weights, length), far_shares(weights, length)
            beside_some = [level for share in sorted(set(shares.values()))[:4] for level in beside(share)]
            for level in LEVELS + tuple([share_from(level) for level in beside_some]):
                told = sum(min(share, capped(level)) for share in shares.values())
                self.assertEqual(fraction_of(far.worth_at(level)), told)

    def test_worth_is_plain_worth_of_a_table(self):
        for weights, length in SMALL:
            far, table = Far(weights, length), table_of_all(weights, length)
            for level in LEVELS[::3]:
                self.assertTrue(far.worth_at(level) == plain_worth(table, level))

    def test_worth_of_long_texts(self):
        for weights in ((1, 1), (2, 1), (59, 60)):
            far, whole = Far(weights, 200), sum(weights)
            shares = [Fraction(weights[0] ** (200 - k) * weights[1] ** k, whole ** 200) for k in range(201)]
            for level in [Fraction(1, 10 ** 40), Fraction(1, 2), Fraction(3)] + beside(shares[0]) + beside(shares[66]):
                told = sum(comb(200, k) * min(shares[k], level) for k in range(201))
                self.assertEqual(fraction_of(far.worth_at(share_from(level))), told)

    def test_worth_of_long_texts_of_three_letters(self):
        for weights in ((1, 1, 1), (3, 1, 2), (60, 59, 1)):
            far, whole = Far(weights, 12), sum(weights)
            shares = {}
            for a, b in product(range(13), repeat=2):
                if a + b <= 12:
                    share = Fraction(weights[0] ** a * weights[1] ** b * weights[2] ** (12 - a - b), whole ** 12)
                    shares[a, b] = (comb(12, a) * comb(12 - a, b), share)
            for level in [Fraction(1, 10 ** 40), Fraction(1, 7), Fraction(5, 4)] + beside(shares[5, 4][1]):
                told = sum(many * min(share, level) for many, share in shares.values())
                self.assertEqual(fraction_of(far.worth_at(share_from(level))), told)

    def test_levels_at_one_and_above(self):
        for weights, length in SMALL + (((7, 5), 200), ((7, 5, 3), 12)):
            for level in (Share(1, 1), Share(10 ** 40, 10 ** 40 - 1), Share(60, 1)):
                self.assertEqual(Far(weights, length).worth_at(level).written(), "1")


if __name__ == "__main__":
    unittest.main()
