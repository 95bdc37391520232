"""Judges: what a marking shows, whom it accuses, and how much it finds."""

from marktruly.basics import readable_of
from marktruly.errors import Accuses, Seen
from marktruly.packing import worth
from marktruly.shares import Share


def seen_at(source, marking):
    """Return the first text that a marking writes with another share than the source, or None."""
    for text in sorted(set(source.texts()) | set(marking.texts())):
        if marking.written_share(text) != source.share_of(text):
            return text
    return None


def _accused(marking):
    """Return the texts that are accused under some key, ascending."""
    return sorted({text for entry in marking.entries for text in entry[2]})


def accused_most(marking):
    """Return the greatest share of the keys that accuse one text."""
    most = Share(0, 1)
    for text in _accused(marking):
        share = marking.accused_share(text)
        if most.is_below(share):
            most = share
    return most


def accused_at(marking, level):
    """Return the first text that is accused more often than the level, or None."""
    for text in _accused(marking):
        if level.is_below(marking.accused_share(text)):
            return text
    return None


def found_share(changes, marking):
    """Return the share of the keys that accuse all readable texts of the text that they write."""
    readable = readable_of(marking.texts(), changes)
    found = 0
    for weight, text, accused in marking.entries:
        if all([told in accused for told in readable[text]]):
            found = found + weight
    return Share(found, marking.whole)


def gap(source, changes, level, marking):
    """Return by how much the worth is above what a marking finds."""
    readable_of(source.texts(), changes)
    text = seen_at(source, marking)
    if text is not None:
        raise Seen(text)
    text = accused_at(marking, level)
    if text is not None:
        raise Accuses(text)
    return worth(source, changes, level) - found_share(changes, marking)


def blind_share(changes, marking):
    """Return the share that is found at least, if texts are changed without a look at the key."""
    readable = readable_of(marking.texts(), changes)
    found = 0
    for text in readable:
        found = found + min([_weight_of_both(marking, text, told) for told in readable[text]])
    return Share(found, marking.whole)


def _weight_of_both(marking, text, told):
    """Return the weight of the keys that write the one text and accuse the other."""
    return sum([entry[0] for entry in marking.entries if entry[1] == text and told in entry[2]])
