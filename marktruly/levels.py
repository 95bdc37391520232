"""Levels: the worth where it can be told without a search, and the level that a share found takes."""

from marktruly.basics import readable_of
from marktruly.changes import classes
from marktruly.shares import Share, lesser_of, sum_of


def plain_worth(source, level):
    """Return the worth for texts that nobody changes."""
    return sum_of([lesser_of(source.share_of(text), level) for text in source.texts()])


def class_worth(source, changes, level):
    """Return the worth for changes within classes of texts."""
    # Asked ahead of the classes: a text without a row is told before texts that are no classes.
    readable_of(source.texts(), changes)
    shares = [sum_of([source.share_of(text) for text in texts]) for texts in classes(changes)]
    return sum_of([lesser_of(share, level) for share in shares])


def bends(source):
    """Return the distinct shares of the texts, ascending in size, each with the plain worth at this level."""
    weights = sorted({source.weight_of(text) for text in source.texts()})
    shares = [Share(weight, source.whole) for weight in weights]
    return tuple([(share, plain_worth(source, share)) for share in shares])


def least_level(source, found):
    """Return the least level at which the plain worth is at least this share."""
    level = Share(0, 1)
    reached = Share(0, 1)
    for share, reached_there in bends(source):
        if not reached_there.is_below(found):
            # From one bend to the next, just the texts whose share is above the first one go on growing.
            many = len([text for text in source.texts() if level.is_below(source.share_of(text))])
            return level + (found - reached).by(Share(many, 1))
        level = share
        reached = reached_there
    return level
