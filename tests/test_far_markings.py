"""Points [1] to [4], [19] and [22]: far markings."""

import unittest
from fractions import Fraction
from math import lcm

from marktruly.errors import InvalidKey, MarkError, UnknownText
from marktruly.far import Far, FarMarking
from marktruly.makers import Makers
from marktruly.shares import Share
from packings import capped, share_from
from rings import RING_LEVELS
from samples import HUGE, NO_INTEGERS, fraction_of
from test_far import SMALL, beside, far_shares, table_of_all

ANY_DIGITS = 10 ** 5000 + 1
LONG = (((1, 1), 60), ((59, 60), 60), ((3, 1), 40), ((1, 1, 1), 10), ((60, 7, 1), 10))


def levels_for(weights, length):
    """Levels at, beside, and off the shares of the texts."""
    most = max(far_shares(weights, length).values()) if length < 9 else Fraction(max(weights), sum(weights)) ** length
    return RING_LEVELS + tuple([share_from(level) for level in beside(most)])


def some_texts(weights, length):
    """A few of the many texts: first and last ones, and such that change often."""
    letters = "abc"[:len(weights)]
    lines = [letters[0] * length, letters[-1] * length, (letters * length)[:length], (letters[::-1] * length)[:length]]
    return lines + ["a" * at + "b" * (length - at) for at in (1, length // 2)] + ["b" * (length - 1) + "a"]


class FarMarkingTest(unittest.TestCase):

    def test_as_told(self):
        # Shares 4, 2, 2, 1 of 9; arcs of at most 2: aa 0-1, ab 2-3, ba 4-5, bb 6, and 7-8 of aa.
        marking = FarMarking(far=Far((2, 1), 2), level=Share(2, 9))
        self.assertEqual(marking.ring, 9)
        self.assertEqual([marking.write(key=key) for key in range(9)], "aa aa ab ab ba ba bb aa aa".split())
        self.assertEqual((marking.arc_of(text="aa"), marking.rest_of(text="aa")), ((0, 2), (7, 9)))
        self.assertEqual((marking.arc_of("bb"), marking.arc_of("ba")), ((6, 7), (4, 6)))
        first, end = marking.rest_of("ab")
        self.assertEqual(first, end)
        self.assertEqual([marking.accuses(key=key, text="aa") for key in range(9)], [True] * 2 + [False] * 7)

    def test_the_same_as_one_maker(self):
        for weights, length in SMALL:
            shares = far_shares(weights, length)
            for level in levels_for(weights, length):
                marking = FarMarking(Far(weights, length), level)
                makers = Makers(table_of_all(weights, length), 1, level)
                self.assertEqual(marking.ring, makers.ring)
                for text in shares:
                    self.assert_ends(marking, makers, text, shares[text], level)

    def assert_ends(self, marking, makers, text, share, level):
        arc, rest = marking.arc_of(text), marking.rest_of(text)
        self.assertEqual((arc.__class__, rest.__class__), (tuple, tuple))
        self.assertEqual(Fraction(arc[1] - arc[0], marking.ring), min(share, capped(level)))
        self.assertEqual(Fraction(rest[1] - rest[0], marking.ring), share - min(share, capped(level)))
        for key in (arc[0], arc[1] - 1) + ((rest[0], rest[1] - 1) if rest[0] < rest[1] else ()):
            self.assertEqual((marking.write(key), makers.write(0, key)), (text, text))
            self.assertIs(marking.accuses(key, text), key < arc[1])
            self.assertEqual(makers.who(key, text), 0 if key < arc[1] else None)
        for key in (arc[0] - 1, arc[1]):
            if 0 <= key < marking.ring:
                self.assertIs(marking.accuses(key, text), False)
                self.assertEqual(marking.write(key), makers.write(0, key))

    def test_all_keys_of_small_rings(self):
        count = 0
        for weights, length in SMALL:
            shares = far_shares(weights, length)
            for level in levels_for(weights, length):
                marking = FarMarking(Far(weights, length), level)
                if marking.ring > 700:
                    continue
                count = count + 1
                written = [marking.write(key) for key in range(marking.ring)]
                self.assertEqual({text: Fraction(written.count(text), marking.ring) for text in written}, shares)
                found = sum(marking.accuses(key, text) for key, text in enumerate(written))
                self.assertEqual(Fraction(found, marking.ring), fraction_of(Far(weights, length).worth_at(level)))
                for text in list(shares)[:5] + ["a" * (length + 1), "d" * (length + 1), "c" * length + "d"]:
                    accusing = [key for key in range(marking.ring) if marking.accuses(key, text)]
                    arc = marking.arc_of(text) if text in shares else (0, 0)
                    self.assertEqual(accusing, list(range(*arc)))
                    self.assertLessEqual(Fraction(len(accusing), marking.ring), capped(level))
        self.assertGreater(count, 20)

    def test_long_texts(self):
        for weights, length in LONG:
            far = Far(weights, length)
            for level in levels_for(weights, length)[::2]:
                marking = FarMarking(far, level)
                self.assertEqual(marking.ring, self.plain_ring(weights, length, level))
                arcs = fraction_of(far.worth_at(level)) * marking.ring
                texts = some_texts(weights, length)
                for text in texts:
                    share = fraction_of(far.share_of(text))
                    (first, end), (first_left, end_left) = marking.arc_of(text), marking.rest_of(text)
                    self.assertEqual(Fraction(end - first, marking.ring), min(share, capped(level)))
                    self.assertEqual(Fraction(end_left - first_left, marking.ring), share - min(share, capped(level)))
                    for key in (first, end - 1) + ((first_left, end_left - 1) if first_left < end_left else ()):
                        self.assertEqual(marking.write(key), text)
                        self.assertIs(marking.accuses(key, text), key < end)
                    for other in texts:
                        self.assertTrue(other == text or not marking.accuses(first, other))
                self.assertEqual(marking.arc_of(texts[0])[0], 0)
                self.assertEqual(marking.arc_of(texts[1])[1], arcs)
                self.assertEqual(marking.write(0), texts[0])
                last = marking.write(marking.ring - 1)
                end = marking.arc_of(last)[1] if arcs == marking.ring else marking.rest_of(last)[1]
                self.assertEqual(end, marking.ring)

    def plain_ring(self, weights, length, level):
        """The least ring, over how often each letter comes."""
        ring = 1
        for a in range(length + 1):
            for b in range(length - a + 1) if len(weights) == 3 else [length - a]:
                counts = (a, b, length - a - b)
                weight = 1
                for one, count in zip(weights, counts):
                    weight = weight * one ** count
                share = Fraction(weight, sum(weights) ** length)
                ring = lcm(ring, share.denominator, min(share, capped(level)).denominator)
        return ring

    def test_neighbours_lie_side_by_side(self):
        for weights, length in LONG:
            marking = FarMarking(Far(weights, length), RING_LEVELS[3])
            last = "abc"[:len(weights)][-1]
            for text in some_texts(weights, length):
                if text == last * length:
                    continue
                front = text.rstrip(last)
                following = front[:-1] + "abc"["abc".index(front[-1]) + 1] + "a" * (length - len(front))
                self.assertEqual(marking.arc_of(text)[1], marking.arc_of(following)[0])
                one, other = marking.rest_of(text), marking.rest_of(following)
                if one[0] < one[1] and other[0] < other[1]:
                    self.assertEqual(one[1], other[0])


class WrongTest(unittest.TestCase):

    def markings(self):
        return [FarMarking(Far(*parts), Share(1, 5)) for parts in (((2, 1), 2), ((1, 1), 0), ((1, 2, 3), 2), ((1, 1), 60))]

    def test_keys(self):
        for marking in self.markings():
            ring = marking.ring
            odd = (-1, ring, ring + 1, -ring, HUGE, -HUGE, ANY_DIGITS, -ANY_DIGITS, ring * ANY_DIGITS)
            for key in odd + NO_INTEGERS:
                for ask in (lambda: marking.write(key), lambda: marking.accuses(key, "ab"), lambda: marking.accuses(key, "d")):
                    with self.assertRaises(InvalidKey) as caught:
                        ask()
                    self.assertTrue(isinstance(caught.exception, MarkError) and isinstance(caught.exception, ValueError))
                    self.assertTrue(caught.exception.key == key and caught.exception.key.__class__ is key.__class__)
            self.assertEqual(marking.ring, ring)

    def test_texts(self):
        for marking in self.markings():
            for text in ("a", "aaa", "ad", "Ab", "d", "a\n", "a" * 59 + "c", "b" * 61, "not there"):
                for ask in (marking.arc_of, marking.rest_of):
                    with self.assertRaises(UnknownText) as caught:
                        ask(text)
                    self.assertEqual(caught.exception.text, text)
                    self.assertIsInstance(caught.exception, MarkError)
                for key in (0, marking.ring - 1):
                    self.assertIs(marking.accuses(key, text), False)

    def test_texts_with_c_where_there_are_two_letters(self):
        with self.assertRaises(UnknownText):
            FarMarking(Far((1, 1), 2), Share(1, 2)).arc_of("ac")
        self.assertEqual(FarMarking(Far((1, 1, 1), 2), Share(1, 9)).arc_of("ac"), (2, 3))


if __name__ == "__main__":
    unittest.main()
