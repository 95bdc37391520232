"""What several modules need: what counts as an integer, blocks of numbers, and the readable texts of some texts."""


def is_integer(value):
    """Tell whether a value is an integer: True and False are none."""
    return isinstance(value, int) and not isinstance(value, bool)


def is_number_below(value, end):
    """Tell whether a value is an integer from 0 to end - 1."""
    return is_integer(value) and 0 <= value < end


def is_weight(value):
    """Tell whether a value is an integer from 1 on."""
    return is_integer(value) and value >= 1


def block_of(number, sizes):
    """Tell on which block a number lies, and at which place within it.

    The blocks lie one behind the other from 0 on; the number is below the sum of their sizes.
    """
    at = 0
    left = number
    while left >= sizes[at]:
        left = left - sizes[at]
        at = at + 1
    return at, left


def readable_of(texts, changes):
    """Return the readable texts of each of these texts, which are ascending.

    All are asked for ahead of anything else: the first one without a row raises UnknownText.
    """
    return {text: changes.of(text) for text in texts}
