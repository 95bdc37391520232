"""What the tests of makers and of far markings use: rings laid out by their plain meaning."""

from fractions import Fraction
from math import lcm

from marktruly.makers import Makers
from marktruly.shares import Share
from marktruly.sources import Machine, Table
from packings import capped
from samples import MACHINES, TABLES, shares_of

ONE = 10 ** 39
RING_LEVELS = tuple([Share(over, under) for over, under in (
    (1, 8), (1, 4), (2, 5), (1, 2), (3, 4), (1, 1), (7, 3), (1, 10 ** 40 - 1), (ONE + 9, 10 * ONE - 3))])


def plain_arcs(source, many, level):
    """The Fractions of the arcs of a source's texts."""
    most = capped(level) / many
    return {text: min(share, most) for text, share in shares_of(source).items()}


def plain_ring(source, many, level):
    """The least number above 0 that makes integers of all that it has to, from the unders of these Fractions."""
    shares = [*shares_of(source).values(), *plain_arcs(source, many, level).values(), Fraction(1, many)]
    return lcm(*[share.denominator for share in shares])


def plain_blocks(source, many, level):
    """What lies on the ring, in order: triples of first number, number after the last, and text; arcs ahead."""
    ring, arcs, shares = plain_ring(source, many, level), plain_arcs(source, many, level), shares_of(source)
    sizes = [(text, arcs[text]) for text in sorted(arcs)] + [(text, shares[text] - arcs[text]) for text in sorted(arcs)]
    blocks, first = [], 0
    for text, size in sizes:
        blocks.append((first, first + int(ring * size), text))
        first = blocks[-1][1]
    assert first == ring
    return blocks


def ring_sources():
    """Sources of all kinds, of at most 24 texts."""
    large = Table([(text, ONE + 3 ** at) for at, text in enumerate("bdac")])
    made = [Table(pairs) for pairs in TABLES] + [Machine(*parts) for parts in MACHINES]
    return [large] + [source for source in made if len(source.texts()) <= 24]


def all_makers(most_ring):
    """Makers with rings of at most so many numbers, each with what it is made from."""
    for source in ring_sources():
        for many in range(1, 7):
            for level in RING_LEVELS:
                if plain_ring(source, many, level) <= most_ring:
                    yield Makers(source, many, level), source, many, level
