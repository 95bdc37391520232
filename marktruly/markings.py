"""Markings: keys that tell which text is written and which texts are accused, and the best ones."""

from marktruly.basics import block_of, entries_of, is_number_below, is_weight, readable_of
from marktruly.errors import InvalidKey, InvalidNumber, InvalidPair
from marktruly.packing import best_row
from marktruly.shares import Share
from marktruly.sources import Table, table_of


class Marking:
    """Keys, each with a weight, the text that is written under it, and the texts that it accuses."""

    def __init__(self, entries):
        told = []
        for at, (weight, text, accused) in enumerate(entries):
            if not is_weight(weight):
                raise InvalidPair(at)
            told.append((weight, text, tuple(sorted(accused))))
        self.entries = tuple(told)
        self.whole = sum([entry[0] for entry in told])

    def __len__(self):
        return len(self.entries)

    def key_of(self, number):
        """Return the place of the key that has this number."""
        if not is_number_below(number, self.whole):
            raise InvalidNumber(number)
        at, _ = block_of(number, [entry[0] for entry in self.entries])
        return at

    def write(self, key):
        """Return the text that is written under a key."""
        return self._entry(key)[1]

    def accuses(self, key, text):
        """Tell whether a text is accused under a key."""
        return text in self._entry(key)[2]

    def texts(self):
        """Return the texts that are written under some key, ascending."""
        return tuple(sorted({entry[1] for entry in self.entries}))

    def written_share(self, text):
        """Return the share of the keys that write a text."""
        return Share(sum([entry[0] for entry in self.entries if entry[1] == text]), self.whole)

    def accused_share(self, text):
        """Return the share of the keys that accuse a text."""
        return Share(sum([entry[0] for entry in self.entries if text in entry[2]]), self.whole)

    def _entry(self, key):
        """Return the triple of a key."""
        if not is_number_below(key, len(self.entries)):
            raise InvalidKey(key)
        return self.entries[key]


def written_table(marking):
    """Return the table with a marking's shares of writing."""
    weights = {}
    for weight, text, _ in marking.entries:
        weights[text] = weights.get(text, 0) + weight
    return table_of(Table([(text, weights[text]) for text in weights]))


def best_marking(source, changes, level):
    """Return an unseen marking, honest at the level, that finds as much as any such marking does."""
    return marking_of_row(source, changes, best_row(source, changes, level))


def marking_of_row(source, changes, row):
    """Return the marking that finds each text with its share in the row."""
    readable = readable_of(source.texts(), changes)
    found = [(share, text, readable[text]) for text, share in row]
    missed = [(source.share_of(text) - share, text, ()) for text, share in row]
    return Marking(entries_of(found + missed))
