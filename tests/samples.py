"""What several tests use: odd values, Fractions of shares, and sources by their plain meaning."""

from fractions import Fraction
from itertools import product
from math import gcd, prod

from marktruly.shares import Share
from marktruly.sources import Machine, Table

# What may be passed where an error is told for the argument, and is no integer.
NO_INTEGERS = (
    None, True, False, "", "1", "text", (), [], (1,), [1], (0, 1), [None, True], ((1, [2]), "x"),
    [[[[[[[[[[1]]]]]]]]]], tuple(range(200)),
)
HUGE = 10 ** 399 + 7
SIGNS = "".join(map(chr, range(32, 127))).replace(chr(37), "")


def fraction_of(share):
    """The Fraction of a share, which has to be a share in lowest terms."""
    assert share.__class__ is Share
    fraction = Fraction(share.over, share.under)
    assert (share.over, share.under) == (fraction.numerator, fraction.denominator)
    return fraction


def shares_of(source):
    """The Fractions of a source's texts, from its weights."""
    return {text: Fraction(source.weight_of(text), source.whole) for text in source.texts()}


def divisor_of(table):
    """The greatest common divisor of a table's weights."""
    return gcd(*[table.weight_of(text) for text in table.texts()])


def machine_shares(alphabet, start, rows, length):
    """The Fractions of a machine's texts, letter by letter over all texts of its length."""
    shares = {}
    for letters in product(alphabet, repeat=length):
        state, parts = start, []
        for letter in letters:
            row = rows[state]
            weight, following = row[alphabet.index(letter)]
            parts.append(Fraction(weight, sum(pair[0] for pair in row)))
            state = following
        if prod(parts) > 0:
            shares["".join(letters)] = prod(parts)
    return shares


# Machines as (alphabet, start, rows, length): one letter, length 0, weights 0, up to 64 texts and 6 states.
MACHINES = (
    ("a", 0, (((1, 0),),), 3),
    ("ab", 0, (((1, 0), (2, 0)),), 0),
    ("ab", 1, (((1, 1), (2, 0)), ((3, 0), (1, 1))), 3),
    ("ab", 0, (((1, 0), (2, 1)), ((0, 0), (3, 0))), 4),
    ("ab", 0, (((0, 0), (5, 1)), ((7, 1), (0, 0))), 8),
    (" ~", 0, (((999, 0), (1, 0)),), 6),
    ("abc", 2, (((1, 0), (0, 1), (3, 2)), ((2, 2), (2, 1), (0, 0)), ((1, 1), (1, 0), (2, 1))), 3),
    ("ABCDEF", 0, (((1, 0), (2, 0), (3, 0), (4, 0), (5, 0), (6, 0)),), 2),
    ("01", 5, tuple(((k + 1, (k + 1) % 6), (7 - k, (k * k) % 6)) for k in range(6)), 6),
    ("xy", 0, (((4, 0), (6, 0)), ((1000, 1), (997, 0))), 2),
    ("xy", 0, (((10, 1), (20, 1)), ((5, 0), (0, 0))), 2),
)
# Tables as rows of pairs, among them odd signs, texts that begin alike, 24 texts, weights of 40 digits.
TABLES = (
    (("", 1),),
    (("a", 1), ("b", 1), ("c", 2)),
    (("c", 2), ("a", 1), ("b", 1)),
    (("b", 30), ("", 20), ("ba", 10), ("ab", 40), ("B", 5)),
    ((" ", 3), ("~", 4), ("|;", 5), ("~0~1", 6), ("0123456789", 7), ("a b", 8)),
    tuple((SIGNS[93 - 4 * k] * (k % 11 or 5), 10 ** 39 + 3 ** k) for k in range(1, 24)) + (("", 10 ** 40 - 1),),
    (("x", 10 ** 39), ("y", 2 * 10 ** 39)),
    (("aa", 2), ("a", 4), ("aaa", 6)),
)


def sources():
    """All of these, made."""
    return [Table(pairs) for pairs in TABLES] + [Machine(*parts) for parts in MACHINES]
