"""One key for several texts that are written one after the other."""

from marktruly.basics import counts_in_draws, entries_of, is_from_to, is_weight
from marktruly.errors import InvalidNumber, InvalidPair
from marktruly.shares import Share, lesser_of, sum_of


def _check_many(many, most):
    if not is_from_to(many, 1, most):
        raise InvalidNumber(many)


def times(share, many):
    """Return, for k from 0 to many, how often something of this share comes just k times in many draws."""
    _check_many(many, 6)
    return counts_in_draws(share, many)


def _taken(shares, level):
    """Return what is taken of each of these shares, the last one first, until the level is filled."""
    taken = []
    left = level
    for share in reversed(shares):
        part = lesser_of(share, left)
        taken.append(part)
        left = left - part
    return taken[::-1]


def often(share, many, level):
    """Return how often, at the most, something is found in many draws that is taken no more often than the level."""
    # It is found k times where it comes k times: so the greatest k are taken first.
    taken = _taken(times(share, many)[1:], level)
    return sum_of([Share(k + 1, 1) * part for k, part in enumerate(taken)])


def again_worth(source, many, level):
    """Return the greatest share that is found of many texts under one key."""
    _check_many(many, 6)
    return sum_of([often(source.share_of(text), many, level) for text in source.texts()]).by(Share(many, 1))


class RowMarking:
    """Keys, each with a weight, the row of texts that is written under it, and the texts that it accuses."""

    def __init__(self, entries):
        told = []
        for at, (weight, row, accused) in enumerate(entries):
            if not is_weight(weight):
                raise InvalidPair(at)
            told.append((weight, tuple(row), tuple(sorted(accused))))
        self.entries = tuple(told)
        self.whole = sum([entry[0] for entry in told])
        self.many = len(told[0][1])

    def __len__(self):
        return len(self.entries)

    def row_share(self, row):
        """Return the share of the keys that write a row."""
        asked = tuple(row)
        return Share(sum([entry[0] for entry in self.entries if entry[1] == asked]), self.whole)

    def accused_share(self, text):
        """Return the share of the keys that accuse a text."""
        return Share(sum([entry[0] for entry in self.entries if text in entry[2]]), self.whole)

    def found_share(self):
        """Return the mean, over the places of the row, of the share of the keys that accuse the text there."""
        found = 0
        for weight, row, accused in self.entries:
            found = found + weight * len([text for text in row if text in accused])
        return Share(found, self.whole * self.many)


def _rows_of(texts, many):
    """Return all rows of so many of these texts, ascending."""
    rows = [()]
    for _ in range(many):
        rows = [(*row, text) for row in rows for text in texts]
    return rows


def _drawn_share(source, row):
    """Return the share with which a source draws a row."""
    share = Share(1, 1)
    for text in row:
        share = share * source.share_of(text)
    return share


def row_seen_at(source, rows):
    """Return the first row that comes with another share than the product of the source's, or None."""
    for row in sorted(set(_rows_of(source.texts(), rows.many)) | {entry[1] for entry in rows.entries}):
        if rows.row_share(row) != _drawn_share(source, row):
            return row
    return None


def _accused_parts(share, many, level):
    """Return, for k from 1 on, in which part of the rows with just k of it a text of this share is accused."""
    shares = times(share, many)[1:]
    # What never comes stands in no row, and 0 is as good as any part.
    return [part.by(one) if one.over > 0 else one for one, part in zip(shares, _taken(shares, level))]


def _split(parts):
    """Return what a row is split into, so that each text is accused in its part: pairs of a share and the accused."""
    split = []
    begun = Share(0, 1)
    accused = list(parts)
    while len(accused) > 0:
        end = Share(1, 1)
        for text in accused:
            end = lesser_of(end, parts[text])
        split.append((end - begun, accused))
        accused = [text for text in accused if end.is_below(parts[text])]
        begun = end
    return [*split, (Share(1, 1) - begun, [])]


def again_marking(source, many, level):
    """Return a marking of rows that come as the source draws them, honest at the level, that finds again_worth."""
    _check_many(many, 3)
    texts = source.texts()
    parts = {text: _accused_parts(source.share_of(text), many, level) for text in texts}
    keys = []
    for row in _rows_of(texts, many):
        share = _drawn_share(source, row)
        split = _split({text: parts[text][row.count(text) - 1] for text in row})
        keys.extend([(share * part, row, accused) for part, accused in split])
    return RowMarking(entries_of(keys))
