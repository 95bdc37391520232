"""Far texts: sources of so many texts that they can only be gone through letter by letter."""

from math import comb

from marktruly.basics import block_of, is_number_below, part_of, whole_of
from marktruly.errors import InvalidKey, UnknownText
from marktruly.shares import Share, lesser_of, sum_of

LETTERS = "abc"


def _power(base, many):
    """Return the product of so many equal numbers."""
    made = 1
    for _ in range(many):
        made = made * base
    return made


def _counts_of_all(letters, length):
    """Return all counts, how often each of so many letters comes, of the texts of a length."""
    rows = [()]
    for _ in range(letters - 1):
        rows = [(*row, many) for row in rows for many in range(length - sum(row) + 1)]
    return [(*row, length - sum(row)) for row in rows]


def _texts_with(counts):
    """Return how many texts have these counts."""
    many = 1
    left = sum(counts)
    for count in counts:
        many = many * comb(left, count)
        left = left - count
    return many


def _with_letter(counts, place):
    """Return the counts with one more of the letter at this place."""
    return (*counts[:place], counts[place] + 1, *counts[place + 1:])


class Far:
    """A source of the texts of a length whose letters are drawn by two or three weights."""

    def __init__(self, weights, length):
        self.weights = tuple(weights)
        self.length = length

    def share_of(self, text):
        """Return the share with which a text is drawn, 0 for other texts."""
        if not self.has(text):
            return Share(0, 1)
        return self.share_with([text.count(letter) for letter in LETTERS[:len(self.weights)]])

    def worth_at(self, level):
        """Return the sum, over all texts, of the lesser of share and level."""
        found = []
        for counts in self.counts():
            found.append(Share(_texts_with(counts), 1) * lesser_of(self.share_with(counts), level))
        return sum_of(found)

    def has(self, text):
        """Tell whether a text is one of these texts."""
        letters = LETTERS[:len(self.weights)]
        return len(text) == self.length and all([letter in letters for letter in text])

    def counts(self):
        """Return all counts of the texts."""
        return _counts_of_all(len(self.weights), self.length)

    def share_with(self, counts):
        """Return the share of each text with these counts."""
        weight = 1
        for one, count in zip(self.weights, counts):
            weight = weight * _power(one, count)
        return Share(weight, _power(sum(self.weights), self.length))


class FarMarking:
    """The marking of a far source at a level: one maker's ring, on which each text has an arc and what is left."""

    def __init__(self, far, level):
        self._far = far
        shares = {counts: far.share_with(counts) for counts in far.counts()}
        arcs = {counts: lesser_of(shares[counts], level) for counts in shares}
        self.ring = whole_of(list(shares.values()) + list(arcs.values()))
        self._arcs = self._sizes({counts: part_of(self.ring, arcs[counts]) for counts in arcs})
        self._rests = self._sizes({counts: part_of(self.ring, shares[counts] - arcs[counts]) for counts in arcs})
        # The rests lie behind all arcs.
        self._end = self._arcs[self._none()]

    def write(self, key):
        """Return the text that has this number."""
        self._check_key(key)
        if key < self._end:
            return self._text_at(self._arcs, key)
        return self._text_at(self._rests, key - self._end)

    def accuses(self, key, text):
        """Tell whether a key lies on the arc of a text."""
        self._check_key(key)
        if not self._far.has(text):
            return False
        first, end = self.arc_of(text)
        return first <= key < end

    def arc_of(self, text):
        """Return the first number of a text's arc, and the number after the last."""
        return self._block_of(self._arcs, text, 0)

    def rest_of(self, text):
        """Return the first of a text's numbers among the rest, and the number after the last."""
        return self._block_of(self._rests, text, self._end)

    def _check_key(self, key):
        if not is_number_below(key, self.ring):
            raise InvalidKey(key)

    def _none(self):
        """Return the counts of no letters."""
        return (0,) * len(self._far.weights)

    def _sizes(self, sizes):
        """Return, for all counts of the beginnings of texts, how many numbers all texts that begin so have together.

        How many that are depends on the counts alone, not on the order of the letters. What is passed are the sizes
        of whole texts.
        """
        found = {counts: sizes[counts] for counts in sizes}
        letters = len(self._far.weights)
        for length in reversed(range(self._far.length)):
            for counts in _counts_of_all(letters, length):
                found[counts] = sum([found[_with_letter(counts, place)] for place in range(letters)])
        return found

    def _following(self, sizes, counts):
        """Return the sizes of what begins with these counts and one letter more, for each letter."""
        return [sizes[_with_letter(counts, place)] for place in range(len(counts))]

    def _text_at(self, sizes, number):
        """Return the text on whose numbers this one lies, where texts lie one behind the other from 0 on."""
        text = ""
        counts = self._none()
        left = number
        for _ in range(self._far.length):
            # All texts that begin alike lie side by side, so one letter after the other is found.
            place, left = block_of(left, self._following(sizes, counts))
            text = text + LETTERS[place]
            counts = _with_letter(counts, place)
        return text

    def _block_of(self, sizes, text, start):
        """Return a text's block, where texts lie one behind the other from start on."""
        if not self._far.has(text):
            raise UnknownText(text)
        first = start
        counts = self._none()
        for letter in text:
            place = LETTERS.find(letter)
            first = first + sum(self._following(sizes, counts)[:place])
            counts = _with_letter(counts, place)
        return first, first + sizes[counts]
