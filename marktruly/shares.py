"""Shares: exact fractions of two integers."""

from math import gcd

from marktruly.errors import InvalidNumber, InvalidText


class Share:
    """The fraction over / under, kept in lowest terms with under above 0."""

    def __init__(self, over, under):
        if under == 0:
            raise InvalidNumber(under)
        divisor = gcd(over, under)
        if under < 0:
            divisor = -divisor
        self.over = over // divisor
        self.under = under // divisor

    def __add__(self, other):
        return Share(self.over * other.under + other.over * self.under, self.under * other.under)

    def __sub__(self, other):
        return Share(self.over * other.under - other.over * self.under, self.under * other.under)

    def __mul__(self, other):
        return Share(self.over * other.over, self.under * other.under)

    def __eq__(self, other):
        return isinstance(other, Share) and self.over == other.over and self.under == other.under

    def by(self, other):
        """Return this share divided by the other one."""
        return Share(self.over * other.under, self.under * other.over)

    def is_below(self, other):
        """Tell whether this share is less than the other one."""
        return self.over * other.under < other.over * self.under

    def written(self):
        """Return the one written form of this share."""
        if self.under == 1:
            return str(self.over)
        return f"{self.over}/{self.under}"


def _is_digits(word):
    """Tell whether a word has digits from 0 to 9 alone, and one at least."""
    return word.isascii() and word.isdigit()


def _told(text):
    """Return the share that a text tells, perhaps not in its written form, or None."""
    over, stroke, under = text.partition("/")
    if stroke == "":
        under = "1"
    if not _is_digits(over.removeprefix("-")) or not _is_digits(under):
        return None
    if int(under) == 0:
        return None
    return Share(int(over), int(under))


def read_share(text):
    """Return the share that is written so."""
    share = _told(text)
    # Writing it again shuts out every second form: "2/4", "01", "-0", "1/1".
    if share is None or share.written() != text:
        raise InvalidText(text, 0)
    return share


def lesser_of(share, other):
    """Return the lesser one of two shares."""
    if other.is_below(share):
        return other
    return share


def sum_of(shares):
    """Return the sum of a sequence of shares, 0 for none."""
    total = Share(0, 1)
    for share in shares:
        total = total + share
    return total
