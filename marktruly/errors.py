"""The errors of the package. Each keeps its arguments as attributes."""


def _kept(value):
    """Return a copy of a value in which no later change of a list shows."""
    if isinstance(value, list):
        return [_kept(part) for part in value]
    if isinstance(value, tuple):
        return tuple([_kept(part) for part in value])
    return value


class MarkError(ValueError):
    """What all errors of the package stand under; never raised itself."""


class InvalidNumber(MarkError):
    """A number is not one of those that are allowed."""

    def __init__(self, number):
        self.number = _kept(number)


class InvalidPair(MarkError):
    """The pair, triple, or row at this place is wrong."""

    def __init__(self, at):
        self.at = at


class InvalidKey(MarkError):
    """There is no such key."""

    def __init__(self, key):
        self.key = _kept(key)


class UnknownText(MarkError):
    """A text has no row, or is none of those that are asked for."""

    def __init__(self, text):
        self.text = text


class NotClasses(MarkError):
    """Two texts share some readable texts, but not all of them."""

    def __init__(self, text, other):
        self.text = text
        self.other = other


class Seen(MarkError):
    """A marking writes this text with another share than the source."""

    def __init__(self, text):
        self.text = text


class Accuses(MarkError):
    """A marking accuses this text more often than the level."""

    def __init__(self, text):
        self.text = text


class InvalidText(MarkError):
    """A string is not the written form of anything; the line at this place is wrong."""

    def __init__(self, text, at):
        self.text = text
        self.at = at


class NoTicket(MarkError):
    """A ledger has given no such ticket."""

    def __init__(self, ticket):
        self.ticket = _kept(ticket)


class NoMaker(MarkError):
    """There is no such maker."""

    def __init__(self, maker):
        self.maker = _kept(maker)
