"""Points [1] to [4] and [19]: makers, what they write, who is told, and what is wrong with their arguments."""

import unittest
from fractions import Fraction

from marktruly.changes import unchanged
from marktruly.errors import InvalidKey, InvalidNumber, MarkError, NoMaker
from marktruly.levels import plain_worth
from marktruly.makers import Makers
from marktruly.packing import worth
from marktruly.shares import Share
from marktruly.sources import Machine, Table
from packings import capped
from rings import RING_LEVELS, all_makers, plain_arcs, plain_blocks, plain_ring, ring_sources
from samples import HUGE, NO_INTEGERS, fraction_of, shares_of

SOURCE = Table((("c", 2), ("a", 1), ("b", 1)))
OTHER_TEXTS = ("zz", "", "A", "aab", "a\n", "not there")


def text_on(blocks, number):
    """The text on whose block a number lies."""
    return [text for first, end, text in blocks if first <= number < end][0]


class MakersTest(unittest.TestCase):

    def test_as_told(self):
        # Arcs 1/4, 1/4, 3/8 of 8: a has 0 and 1, b has 2 and 3, c has 4 to 6, and 7 of the rest.
        makers = Makers(SOURCE, 2, Share(3, 4))
        self.assertEqual((makers.ring, makers.arcs.written()), (8, "7/8"))
        self.assertEqual("".join([makers.write(0, key) for key in range(8)]), "aabbcccc")
        self.assertEqual("".join([makers.write(1, key) for key in range(8)]), "ccccaabb")
        self.assertEqual([makers.who(key, "c") for key in range(8)], [1, 1, 1, None, 0, 0, 0, None])
        self.assertEqual([makers.who(key, "a") for key in range(8)], [0, 0, None, None, 1, 1, None, None])
        self.assertEqual(makers.credited(1, 0, "c").written(), "0")
        self.assertEqual(makers.credited(1, 1, "c").written(), "3/8")

    def test_credited_for_what_another_wrote(self):
        makers = Makers(Table((("a", 1),)), 3, Share(1, 2))
        self.assertEqual((makers.ring, makers.arcs.written()), (6, "1/6"))
        for maker in range(3):
            for other in range(3):
                self.assertEqual(makers.credited(maker, other, "a").written(), "1/6")

    def test_rings_are_the_least(self):
        for source in ring_sources():
            for many in range(1, 7):
                for level in RING_LEVELS:
                    makers = Makers(source, many, level)
                    self.assertEqual(makers.ring, plain_ring(source, many, level))
                    self.assertEqual(fraction_of(makers.arcs), sum(plain_arcs(source, many, level).values()))

    def test_ends_of_blocks_on_rings_of_any_size(self):
        for source in ring_sources():
            for many in (1, 2, 5):
                for level in RING_LEVELS[1::3]:
                    self.assert_blocks(Makers(source, many, level), source, many, level)

    def assert_blocks(self, makers, source, many, level):
        arcs = len(shares_of(source))
        for at, (first, end, text) in enumerate(plain_blocks(source, many, level)):
            for point in (first, end - 1) if first < end else ():
                for maker in range(many):
                    key = (point - maker * makers.ring // many) % makers.ring
                    self.assertEqual(makers.write(maker, key), text)
                    if at < arcs:
                        self.assertEqual(makers.who(key, text), maker)
                    else:
                        self.assertIsNot(makers.who(key, text), maker)

    def test_all_keys_of_small_rings(self):
        seen = 0
        for makers, source, many, level in all_makers(60):
            seen = seen + 1
            blocks, shares = plain_blocks(source, many, level), shares_of(source)
            arcs = {text: (first, end) for first, end, text in blocks[:len(shares)]}
            written = {}
            for key in range(makers.ring):
                points = [(key + maker * makers.ring // many) % makers.ring for maker in range(many)]
                for maker, point in enumerate(points):
                    text = makers.write(maker, key)
                    self.assertEqual(text, text_on(blocks, point))
                    written[maker, text] = written.get((maker, text), 0) + 1
                for text in arcs:
                    told = [at for at, point in enumerate(points) if arcs[text][0] <= point < arcs[text][1]]
                    self.assertLessEqual(len(told), 1)
                    self.assertEqual(makers.who(key, text), told[0] if told else None)
                for text in OTHER_TEXTS:
                    self.assertIsNone(makers.who(key, text) if text not in shares else None)
            told = {(maker, text): makers.ring * shares[text] for maker in range(many) for text in shares}
            self.assertEqual(written, told)
        self.assertGreater(seen, 100)

    def test_found_and_named_over_all_keys(self):
        for makers, source, many, level in all_makers(60):
            keys = range(makers.ring)
            for maker in range(many):
                found = [key for key in keys if makers.who(key, makers.write(maker, key)) == maker]
                self.assertEqual(Fraction(len(found), makers.ring), fraction_of(makers.arcs))
            for text in source.texts():
                named = [key for key in keys if makers.who(key, text) is not None]
                self.assertLessEqual(Fraction(len(named), makers.ring), capped(level))

    def test_credited_over_all_keys(self):
        for makers, source, many, level in all_makers(30):
            for text in source.texts() + OTHER_TEXTS:
                told = [makers.who(key, text) for key in range(makers.ring)]
                for maker in range(many):
                    wrote = [makers.write(maker, key) == text for key in range(makers.ring)]
                    for other in range(many):
                        count = sum(1 for at in range(makers.ring) if wrote[at] and told[at] == other)
                        found = fraction_of(makers.credited(maker, other, text))
                        self.assertEqual(found, Fraction(count, makers.ring))
                        if maker != other:
                            self.assertLessEqual(found, capped(level) / many)

    def test_credited_of_a_ring_of_many_keys(self):
        source = Table((("a", 701), ("b", 299), ("c", 9000)))
        makers = Makers(source, 4, Share(1, 5))
        self.assertEqual(makers.ring, 10000)
        for maker, other in ((0, 0), (0, 1), (1, 0), (3, 2), (0, 3)):
            count = sum(1 for key in range(makers.ring)
                        if makers.write(maker, key) == "c" and makers.who(key, "c") == other)
            self.assertEqual(fraction_of(makers.credited(maker, other, "c")), Fraction(count, 10000))

    def test_one_maker_is_plain_worth(self):
        for source in ring_sources():
            for level in RING_LEVELS:
                makers = Makers(source, 1, level)
                self.assertTrue(makers.arcs == plain_worth(source, level))
                if len(source.texts()) <= 8:
                    self.assertTrue(makers.arcs == worth(source, unchanged(source.texts()), level))

    def test_levels_above_one_count_as_one(self):
        for many in (1, 3, 6):
            for level in (Share(10 ** 40, 10 ** 40 - 1), Share(2, 1), Share(6, 1), Share(50, 1)):
                one, other = Makers(SOURCE, many, Share(1, 1)), Makers(SOURCE, many, level)
                self.assertEqual((one.ring, one.arcs.written()), (other.ring, other.arcs.written()))
                self.assertEqual([one.who(key, "c") for key in range(one.ring)],
                                 [other.who(key, "c") for key in range(one.ring)])

    def test_arguments_by_name_and_two_in_turn(self):
        one, other = Makers(source=SOURCE, many=2, level=Share(3, 4)), Makers(SOURCE, 1, Share(1, 9))
        for _ in range(2):
            self.assertEqual((one.write(maker=1, key=0), one.who(key=0, text="c")), ("c", 1))
            self.assertEqual(one.credited(maker=1, other=1, text="c").written(), "3/8")
            self.assertEqual((one.ring, one.arcs.written()), (8, "7/8"))
            self.assertEqual((other.ring, other.arcs.written()), (36, "1/3"))
        machine = Machine("ab", 0, (((1, 0), (2, 0)),), 0)
        self.assertEqual(Makers(machine, 6, Share(1, 1)).write(5, 0), "")


class WrongTest(unittest.TestCase):

    def assert_raises(self, kind, name, told, ask):
        with self.assertRaises(kind) as caught:
            ask()
        self.assertEqual(repr(getattr(caught.exception, name)), repr(told))
        self.assertTrue(isinstance(caught.exception, MarkError) and isinstance(caught.exception, ValueError))

    def test_many(self):
        for many in (0, 7, -1, -6, HUGE, -HUGE) + NO_INTEGERS:
            self.assert_raises(InvalidNumber, "number", many, lambda: Makers(SOURCE, many, Share(1, 2)))

    def test_keys(self):
        for many in (1, 3):
            makers = Makers(SOURCE, many, Share(1, 2))
            for key in (-1, makers.ring, makers.ring + 1, -makers.ring, HUGE, -HUGE) + NO_INTEGERS:
                self.assert_raises(InvalidKey, "key", key, lambda: makers.write(0, key))
                self.assert_raises(InvalidKey, "key", key, lambda: makers.who(key, "a"))
                self.assert_raises(InvalidKey, "key", key, lambda: makers.who(key, "not there"))
            self.assertEqual((makers.write(0, 0), makers.who(0, "a")), ("a", 0))

    def test_makers(self):
        for many in (1, 3):
            makers = Makers(SOURCE, many, Share(1, 2))
            for maker in (-1, many, many + 1, -many, HUGE, -HUGE) + NO_INTEGERS:
                self.assert_raises(NoMaker, "maker", maker, lambda: makers.write(maker, 0))
                for key in (-1, None, makers.ring):
                    self.assert_raises(NoMaker, "maker", maker, lambda: makers.write(maker, key))
                for text in ("a", "not there"):
                    self.assert_raises(NoMaker, "maker", maker, lambda: makers.credited(maker, 0, text))
                    self.assert_raises(NoMaker, "maker", maker, lambda: makers.credited(0, maker, text))
                    self.assert_raises(NoMaker, "maker", maker, lambda: makers.credited(maker, "x", text))
            self.assertEqual(makers.write(0, 0), "a")

    def test_error_keeps_what_was_passed(self):
        makers, key = Makers(SOURCE, 2, Share(1, 2)), [0, [1]]
        caught = []
        for ask in (lambda: makers.who(key, "a"), lambda: makers.write(key, 0), lambda: Makers(SOURCE, key, Share(1, 2))):
            try:
                ask()
            except MarkError as error:
                caught.append(error)
        key[1].append(2)
        self.assertEqual([caught[0].key, caught[1].maker, caught[2].number], [[0, [1]]] * 3)


if __name__ == "__main__":
    unittest.main()
