"""Points [7], [10], [12], [13] and [23]: marks letter by letter."""

import unittest
from fractions import Fraction
from itertools import combinations, product
from math import comb

from marktruly.changes import exchanged
from marktruly.letters import hit_found, hit_least, hit_shares, hit_tail, hits, letter_write
from marktruly.packing import worth
from marktruly.shares import Share
from marktruly.sources import Machine
from packings import LEVELS, Dice, share_from
from samples import MACHINES, fraction_of, machine_shares

# Machines with few letter keys: 1 to 6 letters, 1 to 6 states, weights of 0, length 0.
SMALL = (
    ("a", 0, (((7, 0),),), 2),
    ("a", 0, (((2, 1),), ((3, 0),)), 2),
    ("ab", 0, (((1, 0), (2, 0)),), 0),
    ("ab", 0, (((1, 0), (1, 0)),), 4),
    ("ab", 1, (((1, 1), (2, 0)), ((1, 0), (1, 1))), 3),
    ("ab", 0, (((0, 0), (5, 1)), ((7, 1), (0, 0))), 1),
    ("ab", 0, (((1, 1), (2, 0)), ((0, 0), (3, 0))), 3),
    (" ~", 1, (((1, 0), (3, 1)), ((2, 1), (2, 0))), 3),
    ("abc", 2, (((1, 0), (0, 1), (3, 2)), ((2, 2), (2, 1), (0, 0)), ((1, 1), (1, 0), (2, 1))), 2),
    ("abc", 0, (((1, 0), (1, 0), (0, 0)),), 3),
    ("abcd", 0, (((0, 0), (1, 1), (0, 0), (2, 0)), ((1, 0), (1, 0), (1, 1), (0, 0))), 2),
    ("ABCDEF", 0, (((1, 0), (2, 0), (3, 0), (4, 0), (5, 0), (6, 0)),), 1),
    ("xy", 5, tuple(((k % 2 + 1, (k + 1) % 6), (2 - k % 2, (k * k) % 6)) for k in range(6)), 3),
)


def keys_of(machine):
    """All letter keys of a machine."""
    pairs = list(product(range(len(machine.alphabet)), range(machine.unit)))
    return list(product(pairs, repeat=machine.length))


def turned(alphabet, turn):
    return alphabet[turn:] + alphabet[:turn]


def plain_write(machine, key):
    """The text that is written under a letter key: each letter laid out as often as its weight tells."""
    text, state = "", machine.start
    for turn, number in key:
        weights = dict(zip(machine.alphabet, machine.rows[state]))
        laid = "".join([letter * weights[letter][0] for letter in turned(machine.alphabet, turn)])
        text = text + laid[number * len(laid) // machine.unit]
        state = weights[text[-1]][1]
    return text


def plain_hits(alphabet, unit, key, text):
    return sum(turned(alphabet, turn)[number * len(alphabet) // unit] == letter
               for (turn, number), letter in zip(key, text))


def plain_tail(q, length, least):
    return sum(Fraction(comb(length, k) * (q - 1) ** (length - k), q ** length) for k in range(least, length + 1))


class LetterWriteTest(unittest.TestCase):

    def test_as_told(self):
        machine = Machine("ab", 0, (((1, 0), (2, 1)), ((3, 0), (0, 0))), 2)
        for key, text in (
            (((0, 0), (0, 0)), "aa"), (((0, 1), (0, 0)), "ba"), (((1, 0), (0, 2)), "ba"), (((1, 1), (1, 0)), "ba"),
            (((1, 2), (0, 2)), "ab"), (((1, 2), (1, 2)), "aa"), ([[1, 2], [1, 0]], "ab"),
        ):
            for _ in range(2):
                self.assertEqual(letter_write(machine=machine, key=key), text)

    def test_all_keys_of_small_machines(self):
        for parts in SMALL:
            machine, written = Machine(*parts), {}
            keys = keys_of(machine)
            for key in keys:
                text = letter_write(machine, key)
                self.assertEqual(text, plain_write(machine, key))
                written[text] = written.get(text, 0) + 1
            found = {text: Fraction(count, len(keys)) for text, count in written.items()}
            self.assertEqual(found, machine_shares(*parts))
            self.assertEqual(sorted(found), list(machine.texts()))

    def test_larger_machines(self):
        dice = Dice(9)
        for parts in MACHINES:
            machine = Machine(*parts)
            if machine.unit > 1000:
                continue
            q, numbers = len(machine.alphabet), (0, machine.unit - 1)
            for at in range(200):
                number = (lambda: numbers[dice.below(2)]) if at < 30 else (lambda: dice.below(machine.unit))
                key = tuple([(dice.below(q), number()) for _ in range(machine.length)])
                text = letter_write(machine, key)
                self.assertEqual(text, plain_write(machine, key))
                self.assertGreater(machine.weight_of(text), 0)
                for other in (text, machine.drawn(dice.below(machine.whole))):
                    told = plain_hits(machine.alphabet, machine.unit, key, other)
                    self.assertEqual(hits(machine.alphabet, machine.unit, key, other), told)


class HitsTest(unittest.TestCase):

    def test_as_told(self):
        # Of a unit of 4 and three letters: numbers 0, 1 fall on the first in order, 2 on the second, 3 on the third.
        for turn, letters in ((0, "aabc"), (1, "bbca"), (2, "ccab")):
            for number, letter in enumerate(letters):
                for other in "abc":
                    key = [(turn, number)]
                    self.assertEqual(hits(alphabet="abc", unit=4, key=key, text=other), int(letter == other))
        self.assertEqual(hits("abc", 4, ((0, 0), [1, 2], (2, 3)), "acb"), 3)
        self.assertEqual(hits("abc", 4, ((0, 0), (1, 2), (2, 3)), "aac"), 1)
        self.assertEqual(hits("abc", 4, (), ""), 0)
        self.assertEqual(hits("a", 1, ((0, 0),) * 3, "aaa"), 3)

    def test_all_texts_of_letters_have_hits_as_the_tail_tells(self):
        for parts in SMALL:
            machine = Machine(*parts)
            keys, q = keys_of(machine), len(machine.alphabet)
            texts = ["".join(letters) for letters in product(machine.alphabet, repeat=machine.length)]
            for text in texts[:3] + texts[-3:]:
                found = [hits(machine.alphabet, machine.unit, key, text) for key in keys]
                self.assertEqual(found, [plain_hits(machine.alphabet, machine.unit, key, text) for key in keys])
                for least in range(machine.length + 2):
                    share = Fraction(sum(many >= least for many in found), len(keys))
                    self.assertEqual(fraction_of(hit_tail(q, machine.length, least)), share)


class TailTest(unittest.TestCase):

    def test_tails(self):
        for q in range(1, 7):
            for length in range(11):
                for least in range(length + 2):
                    self.assertEqual(fraction_of(hit_tail(q=q, length=length, least=least)), plain_tail(q, length, least))
                self.assertEqual(hit_tail(q, length, 0).written(), "1")
                self.assertEqual(hit_tail(q, length, length + 1).written(), "0")

    def test_least_hits(self):
        unit = Fraction(1, 10 ** 39)
        for q in range(1, 7):
            for length in range(11):
                tails = [plain_tail(q, length, least) for least in range(length + 2)]
                beside = [tail + step for tail in tails for step in (-unit, 0, unit) if tail + step > 0]
                for level in [share_from(level) for level in beside] + list(LEVELS):
                    told = min(k for k in range(length + 2) if tails[k] <= fraction_of(level))
                    self.assertEqual(hit_least(q=q, length=length, level=level), told)
                self.assertEqual(hit_least(q, length, Share(1, 1)), 0)
                self.assertEqual(hit_least(q, length, Share(7, 2)), 0)


def exchanges(alphabet, text, most):
    """All texts that come of this one by at most so many letters exchanged."""
    found = {text}
    for places in combinations(range(len(text)), min(most, len(text))):
        for letters in product(alphabet, repeat=len(places)):
            other = list(text)
            for place, letter in zip(places, letters):
                other[place] = letter
            found.add("".join(other))
    return sorted(found)


class HitFoundTest(unittest.TestCase):

    def test_hit_shares(self):
        for parts in SMALL:
            machine = Machine(*parts)
            keys = keys_of(machine)
            found = [hits(machine.alphabet, machine.unit, key, letter_write(machine, key)) for key in keys]
            told = hit_shares(machine=machine)
            self.assertIs(tuple, told.__class__)
            shares = [Fraction(found.count(k), len(keys)) for k in range(machine.length + 1)]
            self.assertEqual([fraction_of(share) for share in told], shares)

    def test_hit_shares_of_larger_machines(self):
        for parts in MACHINES:
            machine = Machine(*parts)
            if machine.unit <= 1000:
                shares = [fraction_of(share) for share in hit_shares(machine)]
                self.assertEqual((len(shares), sum(shares)), (machine.length + 1, 1))
                # Place by place, over all pairs: how likely the states are, and a hit in each.
                chances, mean = {machine.start: Fraction(1)}, Fraction(0)
                for _ in range(machine.length):
                    following = {}
                    for state, chance in chances.items():
                        one = Machine(machine.alphabet, state, machine.rows, 1)
                        mean = mean + chance * self.chance_of_a_hit(one, machine.unit)
                        whole = sum(weight for weight, _ in machine.rows[state])
                        for weight, other in machine.rows[state]:
                            following[other] = following.get(other, 0) + chance * Fraction(weight, whole)
                    chances = following
                self.assertEqual(sum(k * share for k, share in enumerate(shares)), mean)

    def chance_of_a_hit(self, machine, unit):
        keys = [((turn, number),) for turn in range(len(machine.alphabet)) for number in range(unit)]
        found = sum(plain_hits(machine.alphabet, unit, key, plain_write(machine, key)) for key in keys)
        return Fraction(found, len(keys))

    def test_hit_found_as_told(self):
        for parts in SMALL + tuple(parts for parts in MACHINES if Machine(*parts).unit <= 1000):
            machine = Machine(*parts)
            shares, q = [fraction_of(share) for share in hit_shares(machine)], len(machine.alphabet)
            for level in LEVELS + tuple([hit_tail(q, machine.length, k) for k in range(machine.length + 1)]):
                least = hit_least(q, machine.length, level)
                for most in range(3):
                    told = sum(shares[least + most:]) if least > 0 else 1
                    self.assertEqual(fraction_of(hit_found(machine=machine, level=level, most=most)), told)

    def test_hit_found_is_what_stays_over_the_level(self):
        for parts in SMALL:
            machine = Machine(*parts)
            q, keys = len(machine.alphabet), keys_of(machine)
            if q == 1:
                continue
            for most in range(3):
                lows = [min(hits(machine.alphabet, machine.unit, key, other) for other in exchanges(
                    machine.alphabet, letter_write(machine, key), most)) for key in keys]
                for level in LEVELS[::3]:
                    least = hit_least(q, machine.length, level)
                    share = Fraction(sum(low >= least for low in lows), len(keys))
                    self.assertEqual(fraction_of(hit_found(machine, level, most)), share)

    def test_never_above_the_worth(self):
        count = 0
        for parts in SMALL:
            machine = Machine(*parts)
            texts = machine.texts()
            for most in range(3):
                if len(texts) > 8 or most == 2 and len(texts) > 6:
                    continue
                changes = exchanged(texts, machine.alphabet, most)
                if len({told for text in texts for told in changes.of(text)}) > 16:
                    continue
                for level in LEVELS[::2]:
                    found = fraction_of(hit_found(machine, level, most))
                    self.assertLessEqual(found, fraction_of(worth(machine, changes, level)))
                    count = count + (0 < found < 1)
        self.assertGreater(count, 20)


if __name__ == "__main__":
    unittest.main()
