"""Changes: which texts may be read where a text was written."""

from marktruly.basics import readable_of
from marktruly.errors import InvalidPair, NotClasses, UnknownText


class Changes:
    """For each of some texts, the texts that may be read in its place, itself among them."""

    def __init__(self, rows):
        told = {}
        for at, (text, readable) in enumerate(rows):
            if text in told:
                raise InvalidPair(at)
            told[text] = tuple(sorted(set([text, *readable])))
        self._rows = {text: told[text] for text in sorted(told)}

    def __eq__(self, other):
        return isinstance(other, Changes) and self._rows == other._rows

    def texts(self):
        """Return the texts of the rows, ascending."""
        return tuple(self._rows)

    def of(self, text):
        """Return the readable texts of a text, ascending."""
        if text not in self._rows:
            raise UnknownText(text)
        return self._rows[text]

    def readable(self):
        """Return all readable texts, ascending."""
        return tuple(sorted({told for row in self._rows.values() for told in row}))


def unchanged(texts):
    """Return the changes that leave each text as it is."""
    return Changes([(text, ()) for text in texts])


def exchanged(texts, alphabet, most):
    """Return the changes that exchange at most so many signs for letters."""
    return _stepped(texts, most, lambda text: _exchanges(text, alphabet))


def struck(texts, most):
    """Return the changes that leave out at most so many signs."""
    return _stepped(texts, most, _strikes)


def put_in(texts, alphabet, most):
    """Return the changes that put in at most so many letters."""
    return _stepped(texts, most, lambda text: _insertions(text, alphabet))


def _exchanges(text, alphabet):
    """Return what one sign exchanged for a letter makes of a text."""
    return [text[:at] + letter + text[at + 1:] for at in range(len(text)) for letter in alphabet]


def _strikes(text):
    """Return what one sign left out makes of a text."""
    return [text[:at] + text[at + 1:] for at in range(len(text))]


def _insertions(text, alphabet):
    """Return what one letter put in makes of a text."""
    return [text[:at] + letter + text[at:] for at in range(len(text) + 1) for letter in alphabet]


def _stepped(texts, most, step):
    """Return the changes that at most so many steps make."""
    return Changes([(text, _reached(text, most, step)) for text in texts])


def _reached(text, most, step):
    """Return what at most so many steps make of a text."""
    reached = {text: True}
    for _ in range(most):
        for before in list(reached):
            for told in step(before):
                reached[told] = True
    return list(reached)


def after(first, second):
    """Return what second makes of what first makes of the texts of first."""
    made = readable_of(first.readable(), second)
    rows = []
    for text in first.texts():
        rows.append((text, [told for between in first.of(text) for told in made[between]]))
    return Changes(rows)


def together(one, other):
    """Return what the one or the other makes."""
    odd = sorted(set(one.texts()) ^ set(other.texts()))
    if len(odd) > 0:
        raise UnknownText(odd[0])
    return Changes([(text, one.of(text) + other.of(text)) for text in one.texts()])


def _are_apart(readable, other):
    """Tell whether two rows of readable texts are the same or have none in common."""
    return readable == other or len(set(readable) & set(other)) == 0


def parting(changes):
    """Return the first pair of texts that have some readable texts in common, not all, or None."""
    texts = changes.texts()
    for at, text in enumerate(texts):
        for other in texts[at + 1:]:
            if not _are_apart(changes.of(text), changes.of(other)):
                return text, other
    return None


def classes(changes):
    """Return the texts, put together by their readable ones."""
    pair = parting(changes)
    if pair is not None:
        raise NotClasses(pair[0], pair[1])
    found = {}
    for text in changes.texts():
        found.setdefault(changes.of(text), []).append(text)
    # Met in the order of their first texts, the classes are ascending already.
    return tuple([tuple(texts) for texts in found.values()])
