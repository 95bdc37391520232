"""Point [5]: shares, checked against Python's own fractions."""

import unittest
from fractions import Fraction
from itertools import product

from marktruly.errors import InvalidNumber, InvalidText
from marktruly.shares import Share, lesser_of, read_share, sum_of

LONG = 9876543210987654321098765432109876543210
OTHER_LONG = 1234567890123456789012345678901234567890
PARTS = (
    (0, 1), (0, -7), (1, 1), (-1, 1), (1, -1), (2, 4), (-2, 4), (2, -4), (-2, -4), (6, 3), (-9, 3), (7, 12), (5, 12),
    (10 ** 39, 10 ** 38), (1, 10 ** 39), (LONG, OTHER_LONG), (-LONG, OTHER_LONG), (OTHER_LONG, -LONG),
    (10 ** 40 - 1, 10 ** 40 - 1), (LONG, 1), (3 * LONG, 6 * LONG),
)
# Every one of these reads like a share, but is not how that share is written.
WRONG = (
    "", " ", "2/4", "+1", "01", "1/1", "-0", " 1", "1 ", "1\n", "\n1", "1/-2", "1/0", "0/1", "0/5", "-0/1", "00", "-",
    "/", "1/", "/2", "-/2", "--1", "1/2/3", "1//2", "1/02", "01/2", "1/+2", "1 /2", "1/ 2", "1/2\n", "1_0", "1/1_0",
    "1.5", "1e3", "0x1", "a", "None", "-1/-2", "1-", "1/2-", "-01", "4/2", "-4/2", "3/1", "-3/1", "-1/1", "+1/2",
    "\u00b2", "1/\u00b2", "\u0663", "\u0661/\u0663", "1\u2044" + "2", "\uff11", "1,5", "1\t", "1\r\n", "1\x00",
    "0" * 400, "1/" + "0" * 400, "9" * 400 + "/" + "9" * 400,
)


def fraction_of(share):
    return Fraction(share.over, share.under)


class ShareTest(unittest.TestCase):

    def same(self, share, fraction):
        self.assertIsInstance(share, Share)
        self.assertEqual((share.over, share.under), (fraction.numerator, fraction.denominator))
        self.assertIs(int, share.over.__class__)
        self.assertIs(int, share.under.__class__)

    def test_kept_in_lowest_terms(self):
        for over, under in PARTS:
            self.same(Share(over, under), Fraction(over, under))
            self.same(Share(over=over, under=under), Fraction(over, under))

    def test_under_of_zero(self):
        for over in (0, 1, -1, LONG):
            with self.assertRaises(InvalidNumber) as caught:
                Share(over, 0)
            self.assertEqual(caught.exception.number, 0)
            self.assertIs(int, caught.exception.number.__class__)

    def test_sums_differences_products(self):
        for first in PARTS:
            for second in PARTS:
                share, other = Share(*first), Share(*second)
                one, two = Fraction(*first), Fraction(*second)
                for _ in range(2):
                    self.same(share + other, one + two)
                    self.same(share - other, one - two)
                    self.same(share * other, one * two)
                self.same(share, one)
                self.same(other, two)

    def test_division(self):
        for first in PARTS:
            for second in PARTS:
                share, other = Share(*first), Share(*second)
                if other.over != 0:
                    self.same(share.by(other), Fraction(*first) / Fraction(*second))
                    self.same(share.by(other=other), Fraction(*first) / Fraction(*second))

    def test_division_by_zero_changes_nothing(self):
        zero = Share(0, 5)
        for first in PARTS:
            share = Share(*first)
            with self.assertRaises(InvalidNumber) as caught:
                share.by(zero)
            self.assertEqual(caught.exception.number, 0)
            self.same(share, Fraction(*first))
            self.same(zero, Fraction(0))

    def test_order_and_equality(self):
        for first in PARTS:
            for second in PARTS:
                share, other = Share(*first), Share(*second)
                one, two = Fraction(*first), Fraction(*second)
                self.assertIs(share.is_below(other), one < two)
                self.assertIs(share == other, one == two)
                self.assertIs(share != other, one != two)
                self.same(lesser_of(share, other), min(one, two))
                self.same(lesser_of(share=share, other=other), min(one, two))

    def test_other_things_are_not_equal(self):
        share = Share(1, 1)
        for other in (1, True, "1", (1, 1), [1, 1], None, Fraction(1), {1: 1}, object(), b"1"):
            self.assertIs(share == other, False)
            self.assertIs(other == share, False)
            self.assertIs(share != other, True)
            self.assertIs(other != share, True)

    def test_equality_with_only_one_part_alike(self):
        self.assertIs(Share(1, 2) == Share(1, 3), False)
        self.assertIs(Share(1, 3) == Share(2, 3), False)
        self.assertIs(Share(1, 2) != Share(-1, 2), True)

    def test_sum_of(self):
        self.same(sum_of(()), Fraction(0))
        self.same(sum_of([]), Fraction(0))
        for many in (1, 2, 3, 60):
            parts = [(10 ** 39 + 7 * k, 10 ** 39 - 11 * k - 1) for k in range(many)]
            shares = [Share(*part) for part in parts]
            total = sum((Fraction(*part) for part in parts), Fraction(0))
            for _ in range(2):
                self.same(sum_of(shares), total)
                self.same(sum_of(tuple(shares)), total)
                self.same(sum_of(shares=shares), total)
            self.assertEqual(len(shares), many)
            for share, part in zip(shares, parts):
                self.same(share, Fraction(*part))


class WrittenTest(unittest.TestCase):

    def test_written(self):
        for over, under in PARTS:
            self.assertEqual(Share(over, under).written(), str(Fraction(over, under)))
        self.assertEqual(Share(-2, 4).written(), "-1/2")
        self.assertEqual(Share(6, 2).written(), "3")
        self.assertEqual(Share(0, -3).written(), "0")

    def test_read_back(self):
        for over, under in PARTS + ((10 ** 399, 10 ** 400 - 1), (-(10 ** 1999), 10 ** 1000 + 1)):
            share = Share(over, under)
            for _ in range(2):
                again = read_share(share.written())
                self.assertEqual((again.over, again.under), (share.over, share.under))
                self.assertTrue(read_share(text=share.written()) == share)

    def test_short_strings(self):
        texts = ["".join(signs) for length in range(5) for signs in product("-+/012 \n", repeat=length)]
        right = {str(Fraction(over, under)) for over in range(-2222, 2223) for under in range(1, 223)}
        for text in texts:
            if text in right:
                self.assertEqual(read_share(text).written(), text)
            else:
                self.assert_wrong(text)

    def test_wrong_strings(self):
        for text in WRONG:
            self.assert_wrong(text)

    def assert_wrong(self, text):
        with self.assertRaises(InvalidText, msg=repr(text)) as caught:
            read_share(text)
        self.assertEqual((caught.exception.text, caught.exception.at), (text, 0))


if __name__ == "__main__":
    unittest.main()
