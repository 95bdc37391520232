"""What several modules need: what counts as an integer, blocks of numbers, and a few words on shares and texts."""

from math import lcm

from marktruly.shares import Share, lesser_of


def is_integer(value):
    """Tell whether a value is an integer: True and False are none."""
    return isinstance(value, int) and not isinstance(value, bool)


def is_number_below(value, end):
    """Tell whether a value is an integer from 0 to end - 1."""
    return is_integer(value) and 0 <= value < end


def is_from_to(value, first, last):
    """Tell whether a value is an integer from first to last."""
    return is_integer(value) and first <= value <= last


def is_weight(value):
    """Tell whether a value is an integer from 1 on."""
    return is_integer(value) and value >= 1


def sum_of_weights(pairs):
    """Return the sum of the weights of pairs that begin with one."""
    return sum([weight for weight, told in pairs])


def block_of(number, sizes):
    """Tell on which block a number lies, and at which place within it.

    The blocks lie one behind the other from 0 on; the number is below the sum of their sizes.
    """
    at = 0
    left = number
    while left >= sizes[at]:
        left = left - sizes[at]
        at = at + 1
    return at, left


def blocks_of(sizes):
    """Return the blocks that lie one behind the other from 0 on: pairs of first number and number after the last."""
    blocks = []
    first = 0
    for size in sizes:
        blocks.append((first, first + size))
        first = first + size
    return blocks


def common_of(block, other):
    """Return how many numbers two blocks have in common."""
    return max(0, min(block[1], other[1]) - max(block[0], other[0]))


def capped(level):
    """Return the level, 1 for one above 1."""
    return lesser_of(level, Share(1, 1))


def whole_of(shares):
    """Return the least number above 0 that makes an integer of each of these shares."""
    whole = 1
    for share in shares:
        whole = lcm(whole, share.under)
    return whole


def part_of(whole, share):
    """Return this share of a whole, where that is an integer."""
    return share.over * (whole // share.under)


def entries_of(keys):
    """Return the entries of keys that are told with shares in place of weights: those of 0 are left out."""
    told = [key for key in keys if key[0].over > 0]
    # The shares are in lowest terms: over the least whole, the weights have no common divisor.
    whole = whole_of([key[0] for key in told])
    return [(part_of(whole, share), text, accused) for share, text, accused in told]


def counts_in_draws(share, many):
    """Return, for k from 0 on, how often something of this share comes just k times in many independent draws."""
    rest = Share(1, 1) - share
    none = Share(0, 1)
    found = [Share(1, 1)]
    for _ in range(many):
        missed = [*[before * rest for before in found], none]
        met = [none, *[before * share for before in found]]
        found = [one + other for one, other in zip(missed, met)]
    return tuple(found)


def readable_of(texts, changes):
    """Return the readable texts of each of these texts, which are ascending.

    All are asked for ahead of anything else: the first one without a row raises UnknownText.
    """
    return {text: changes.of(text) for text in texts}
