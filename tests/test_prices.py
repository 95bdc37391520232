"""Points [2], [3], [12] and [13]: prices judged, and what they cost."""

import unittest
from fractions import Fraction

from marktruly.changes import Changes, unchanged
from marktruly.errors import UnknownText
from marktruly.packing import cost, price_fault
from marktruly.shares import Share
from marktruly.sources import Table
from packings import LEVELS, Dice, judged, plain_cost, price_problem
from samples import fraction_of

SOURCE = Table((("c", 2), ("a", 1), ("b", 1)))
CHANGES = Changes((("c", ()), ("b", ()), ("a", ("b", "z"))))


def paper_of(first, second):
    """Prices for the texts a, b, c, and for the readable texts a, b, c, z."""
    return (
        tuple([(text, Share(*fraction)) for text, fraction in zip("abc", first)]),
        tuple([(text, Share(*fraction)) for text, fraction in zip("abcz", second)]),
    )


ZERO, HALF, ONE, BELOW = (0, 1), (1, 2), (1, 1), (-1, 10 ** 40)
NEARLY = (10 ** 40 - 1, 10 ** 40)


class PriceTest(unittest.TestCase):

    def test_as_told(self):
        for first, second, told in (
            ((ONE, ONE, ONE), (ZERO, ZERO, ZERO, ZERO), None),
            ((ZERO, ZERO, ZERO), (ZERO, ONE, ONE, ZERO), None),
            ((ZERO, HALF, ZERO), (ZERO, HALF, ONE, HALF), None),
            (((7, 1), HALF, HALF), (ONE, HALF, HALF, ONE), None),
            ((ONE, BELOW, BELOW), (BELOW, ONE, ONE, ONE), ("below", "b")),
            ((BELOW, ONE, ONE), (ONE, ONE, ONE, ONE), ("below", "a")),
            ((ONE, ONE, ONE), (ZERO, ZERO, BELOW, BELOW), ("below", "c")),
            ((ONE, ONE, BELOW), (BELOW, ZERO, ZERO, ZERO), ("below", "c")),
            ((ZERO, ZERO, ZERO), (ZERO, ZERO, ZERO, BELOW), ("below", "z")),
            ((ZERO, ZERO, ZERO), (ZERO, ZERO, ZERO, ZERO), ("short", "a")),
            ((NEARLY, ONE, ZERO), (ZERO, ZERO, ZERO, ZERO), ("short", "a")),
            ((ONE, HALF, ZERO), (ONE, (1, 3), ONE, ONE), ("short", "b")),
            ((ZERO, ZERO, ZERO), (ONE, ONE, NEARLY, ONE), ("short", "c")),
        ):
            paper = paper_of(first, second)
            self.assertEqual(price_fault(SOURCE, CHANGES, paper), told)
            self.assertEqual(price_fault(source=SOURCE, changes=CHANGES, paper=list(map(list, paper))), told)
            self.assertEqual(price_problem(SOURCE, CHANGES, paper), told)

    def test_papers_of_many_texts(self):
        dice = Dice(11)
        found = {}
        for source, changes in judged():
            for part in (1, 2, 3, 7, 40):
                paper = []
                for texts in (source.texts(), changes.readable()):
                    below = 0 if dice.below(3) else 1
                    paper.append([[text, Share(dice.below(part + 1) - below, dice.below(part) + 1)] for text in texts])
                told = price_fault(source, changes, paper)
                self.assertEqual(told, price_problem(source, changes, paper))
                found[told and told[0]] = found.get(told and told[0], 0) + 1
                for level in LEVELS[::3]:
                    self.assertEqual(fraction_of(cost(source, level, paper)), plain_cost(source, level, paper))
        self.assertGreater(min(found[None], found["below"], found["short"]), 40)

    def test_cost(self):
        paper = paper_of((ONE, HALF, ZERO), (HALF, HALF, (1, 3), (2, 3)))
        for level, told in (
            ((1, 4), Fraction(7, 8)), ((1, 2), Fraction(11, 8)), ((1, 1), Fraction(19, 8)), ((3, 2), Fraction(19, 8)),
            ((10 ** 40, 10 ** 40 - 1), Fraction(19, 8)), ((10 ** 40, 1), Fraction(19, 8)),
        ):
            for _ in range(2):
                self.assertEqual(fraction_of(cost(SOURCE, Share(*level), paper)), told)
                self.assertEqual(fraction_of(cost(source=SOURCE, level=Share(*level), paper=list(paper))), told)

    def test_cost_of_no_prices(self):
        for level in LEVELS:
            self.assertEqual(fraction_of(cost(SOURCE, level, ((), ()))), 0)
            self.assertEqual(fraction_of(cost(SOURCE, level, ((("c", Share(1, 3)),), ()))), Fraction(1, 6))

    def test_unknown_texts_are_told_ahead(self):
        bad = paper_of((BELOW, BELOW, BELOW), (BELOW, BELOW, BELOW, BELOW))
        for texts, text in (("", "a"), ("bc", "a"), ("ac", "b"), ("abx", "c"), ("c", "a")):
            with self.assertRaises(UnknownText) as caught:
                price_fault(SOURCE, unchanged(list(texts)), bad)
            self.assertEqual(caught.exception.text, text)

    def test_arguments_stay(self):
        paper = [[["a", Share(1, 1)], ["b", Share(1, 1)], ["c", Share(0, 1)]], [[text, Share(1, 2)] for text in "abcz"]]
        before = [[(text, share.written()) for text, share in row] for row in paper]
        for _ in range(2):
            self.assertEqual(price_fault(SOURCE, CHANGES, paper), ("short", "c"))
            self.assertEqual(fraction_of(cost(SOURCE, Share(1, 2), paper)), Fraction(3, 2))
        self.assertEqual([[(text, share.written()) for text, share in row] for row in paper], before)


if __name__ == "__main__":
    unittest.main()
