"""Points [1] to [4] and [21]: how often something comes in many draws, and how often it is found at a level."""

import unittest
from fractions import Fraction
from itertools import product
from math import prod

from marktruly.again import again_marking, again_worth, often, times
from marktruly.errors import InvalidNumber, MarkError
from marktruly.levels import plain_worth
from marktruly.shares import Share
from marktruly.sources import Table
from packings import LEVELS, Dice, capped, share_from
from rings import ring_sources
from samples import HUGE, NO_INTEGERS, fraction_of, shares_of

SHARES = tuple([Share(over, under) for over, under in (
    (0, 1), (1, 1), (1, 2), (1, 3), (2, 3), (1, 6), (5, 7), (1, 100), (99, 100), (1, 10 ** 40), (10 ** 39 + 7, 10 ** 40 - 1),
    (10 ** 40 - 1, 10 ** 40))])
SOURCE = Table((("a", 1), ("b", 1), ("c", 2)))


def plain_times(share, many):
    """What times has to tell, as Fractions, over all rows of draws that meet or miss."""
    found = [Fraction(0)] * (many + 1)
    for row in product((0, 1), repeat=many):
        found[sum(row)] += prod((share if met else 1 - share for met in row), start=Fraction(1))
    return found


def plain_often(share, many, level):
    """What often has to tell, as a Fraction: whole ones, then a part, then nothing."""
    shares, left, found = plain_times(fraction_of(share), many), capped(level), Fraction(0)
    for k in range(many, 0, -1):
        if shares[k] > left:
            return found + k * left
        found, left = found + k * shares[k], left - shares[k]
    return found


class TimesTest(unittest.TestCase):

    def test_as_told(self):
        for share, many, told in (
            ((1, 2), 1, "1/2 1/2"), ((1, 2), 2, "1/4 1/2 1/4"), ((1, 3), 3, "8/27 4/9 2/9 1/27"),
            ((0, 1), 4, "1 0 0 0 0"), ((1, 1), 6, "0 0 0 0 0 0 1"), ((3, 4), 2, "1/16 3/8 9/16"),
        ):
            found = times(share=Share(*share), many=many)
            self.assertIs(tuple, found.__class__)
            self.assertEqual(" ".join([one.written() for one in found]), told)

    def test_all(self):
        for share in SHARES:
            for many in range(1, 7):
                for _ in range(2):
                    found = [fraction_of(one) for one in times(share, many)]
                    self.assertEqual(found, plain_times(fraction_of(share), many))
                    self.assertEqual(sum(found), 1)


class OftenTest(unittest.TestCase):

    def test_as_told(self):
        # Of shares 8/27, 4/9, 2/9, 1/27: level 7/27 takes the last two whole.
        for level, told in (
            ((1, 27), "1/9"), ((1, 54), "1/18"), ((7, 27), "5/9"), ((4, 27), "1/3"), ((8, 27), "16/27"), ((19, 27), "1"),
            ((20, 27), "1"), ((1, 1), "1"), ((7, 2), "1"),
        ):
            self.assertEqual(often(share=Share(1, 3), many=3, level=Share(*level)).written(), told)
        for level, told in (((1, 2), "3"), ((1, 1), "6"), ((2, 1), "6")):
            self.assertEqual(often(Share(1, 1), 6, Share(*level)).written(), told)
            self.assertEqual(often(Share(0, 1), 6, Share(*level)).written(), "0")

    def test_all(self):
        for share in SHARES:
            for many in range(1, 7):
                counts = plain_times(fraction_of(share), many)
                ends = [sum(counts[k:]) for k in range(1, many + 1)]
                unit = Fraction(1, 10 ** 41)
                beside = [end + step for end in ends for step in (-unit, 0, unit) if end + step > 0]
                for level in LEVELS + tuple([share_from(level) for level in beside]):
                    found = fraction_of(often(share, many, level))
                    self.assertEqual(found, plain_often(share, many, level))
                    self.assertLessEqual(found, many * min(fraction_of(share), capped(level)))

    def test_never_less_with_a_greater_level(self):
        levels = sorted([fraction_of(level) for level in LEVELS])
        for share in SHARES:
            for many in (1, 4, 6):
                found = [fraction_of(often(share, many, share_from(level))) for level in levels]
                self.assertEqual(found, sorted(found))


class AgainWorthTest(unittest.TestCase):

    def test_as_told(self):
        for many, level, told in (
            (1, (1, 4), "3/4"), (1, (1, 2), "1"), (2, (1, 4), "9/16"), (2, (1, 16), "3/16"), (2, (1, 1), "1"), (2, (3, 1), "1"),
        ):
            self.assertEqual(again_worth(source=SOURCE, many=many, level=Share(*level)).written(), told)

    def test_all(self):
        for source in ring_sources():
            for many in range(1, 7):
                for level in LEVELS[::4]:
                    found = fraction_of(again_worth(source, many, level))
                    told = sum(plain_often(share_from(share), many, level) for share in shares_of(source).values())
                    self.assertEqual(found, told / many)

    def test_never_rises_with_many_and_is_plain_worth_for_one(self):
        dice, fallen = Dice(6), 0
        drawn = [Table([(text, 1 + dice.below(9)) for text in "abcdefgh"[:1 + dice.below(8)]]) for _ in range(30)]
        for source in drawn + ring_sources():
            for level in LEVELS[1::3]:
                found = [fraction_of(again_worth(source, many, level)) for many in range(1, 7)]
                self.assertEqual(found, sorted(found, reverse=True))
                self.assertTrue(again_worth(source, 1, level) == plain_worth(source, level))
                fallen = fallen + (found[0] > found[5])
        self.assertGreater(fallen, 50)


class WrongTest(unittest.TestCase):

    def assert_wrong(self, number, ask):
        with self.assertRaises(InvalidNumber) as caught:
            ask()
        self.assertEqual(repr(caught.exception.number), repr(number))
        self.assertTrue(isinstance(caught.exception, MarkError) and isinstance(caught.exception, ValueError))

    def test_many(self):
        for many in (0, 7, -1, 60, HUGE, -HUGE) + NO_INTEGERS:
            for share in (Share(0, 1), Share(1, 3), Share(1, 1)):
                self.assert_wrong(many, lambda: times(share, many))
                self.assert_wrong(many, lambda: often(share, many, Share(1, 2)))
            self.assert_wrong(many, lambda: again_worth(SOURCE, many, Share(1, 2)))

    def test_many_of_a_marking(self):
        for many in (0, 4, 5, 6, 7, -1, HUGE, -HUGE) + NO_INTEGERS:
            self.assert_wrong(many, lambda: again_marking(SOURCE, many, Share(1, 2)))

    def test_error_keeps_what_was_passed(self):
        many = [1, [2]]
        with self.assertRaises(InvalidNumber) as caught:
            times(Share(1, 2), many)
        many[1].append(3)
        self.assertEqual(caught.exception.number, [1, [2]])


if __name__ == "__main__":
    unittest.main()
