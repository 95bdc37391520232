"""Makers: several who write under one key, each a text of their own, and are told apart."""

from marktruly.basics import (
    block_of, blocks_of, capped, common_of, is_from_to, is_number_below, is_weight, part_of, whole_of)
from marktruly.errors import InvalidKey, InvalidNumber, InvalidPair, NoMaker
from marktruly.shares import Share, lesser_of, sum_of


class Makers:
    """Makers 0 to many - 1, whose points lie side by side on a ring on which the texts are laid out."""

    def __init__(self, source, many, level):
        if not is_from_to(many, 1, 6):
            raise InvalidNumber(many)
        self.many = many
        texts = source.texts()
        most = capped(level).by(Share(many, 1))
        shares = [source.share_of(text) for text in texts]
        arcs = [lesser_of(share, most) for share in shares]
        self.ring = whole_of([*shares, *arcs, Share(1, many)])
        self._sum = sum_of(arcs)
        self._laid = [*texts, *texts]
        self._sizes = [part_of(self.ring, arc) for arc in arcs]
        self._sizes.extend([part_of(self.ring, share - arc) for share, arc in zip(shares, arcs)])
        blocks = blocks_of(self._sizes)
        self._arcs = {text: block for text, block in zip(texts, blocks)}
        self._rests = {text: block for text, block in zip(texts, blocks[len(texts):])}

    @property
    def arcs(self):
        """Return the sum of the arcs of all texts."""
        return self._sum

    def texts(self):
        """Return the texts of the source, ascending."""
        return tuple(self._arcs)

    def write(self, maker, key):
        """Return the text that has a maker's point under a key."""
        self._check_maker(maker)
        self._check_key(key)
        at, _ = block_of(self._point(maker, key), self._sizes)
        return self._laid[at]

    def who(self, key, text):
        """Return the maker whose point lies on the arc of a text under a key, or None."""
        self._check_key(key)
        first, end = self._arcs.get(text, (0, 0))
        for maker in range(self.many):
            if first <= self._point(maker, key) < end:
                return maker
        return None

    def credited(self, maker, other, text):
        """Return the share of the keys under which maker writes a text and other is told for it."""
        self._check_maker(maker)
        self._check_maker(other)
        if text not in self._arcs:
            return Share(0, 1)
        # Where the point of other goes over the arc, that of maker goes over the arc turned by what is between them.
        # The rest of a text lies behind its arc: it is met before the ring ends, the arc only without a turn.
        turn = self._turned(self._step(maker), self.ring - self._step(other))
        first, end = self._arcs[text]
        met = [common_of((first + turn, end + turn), block) for block in (self._arcs[text], self._rests[text])]
        return Share(sum(met), self.ring)

    def _step(self, maker):
        """Return how far the point of a maker lies behind the key."""
        return maker * self.ring // self.many

    def _turned(self, number, step):
        """Return where a step from a number leads to on the ring."""
        if number + step >= self.ring:
            return number + step - self.ring
        return number + step

    def _point(self, maker, key):
        """Return the point of a maker under a key."""
        return self._turned(key, self._step(maker))

    def _check_maker(self, maker):
        if not is_number_below(maker, self.many):
            raise NoMaker(maker)

    def _check_key(self, key):
        if not is_number_below(key, self.ring):
            raise InvalidKey(key)


class Shared:
    """Keys, each with a weight, the texts that the makers write under it, and the makers that are told for texts."""

    def __init__(self, entries):
        told = []
        for at, (weight, texts, names) in enumerate(entries):
            if not is_weight(weight):
                raise InvalidPair(at)
            told.append((weight, tuple(texts), tuple(sorted([(text, maker) for text, maker in names]))))
        self.entries = tuple(told)
        self.whole = sum([entry[0] for entry in told])
        self.many = len(told[0][1])

    def written_share(self, maker, text):
        """Return the share of the keys under which a maker writes a text."""
        self._check_maker(maker)
        return Share(sum([weight for weight, texts, _ in self.entries if texts[maker] == text]), self.whole)

    def found_share(self, maker):
        """Return the share of the keys under which a maker is told for the text that this maker writes."""
        self._check_maker(maker)
        found = [weight for weight, texts, names in self.entries if (texts[maker], maker) in names]
        return Share(sum(found), self.whole)

    def named_share(self, text):
        """Return the share of the keys under which somebody is told for a text."""
        found = [weight for weight, _, names in self.entries if text in [other for other, maker in names]]
        return Share(sum(found), self.whole)

    def mean_found(self):
        """Return the mean of found_share over the makers."""
        return sum_of([self.found_share(maker) for maker in range(self.many)]).by(Share(self.many, 1))

    def _check_maker(self, maker):
        if not is_number_below(maker, self.many):
            raise NoMaker(maker)


def shared_at(source, shared):
    """Return the first maker and text that this maker writes with another share than the source, or None."""
    for maker in range(shared.many):
        for text in sorted(set(source.texts()) | {entry[1][maker] for entry in shared.entries}):
            if shared.written_share(maker, text) != source.share_of(text):
                return maker, text
    return None


def shared_of(makers):
    """Return the keys of makers, one after the other, each with all that is written and told under it."""
    entries = []
    for key in range(makers.ring):
        written = [makers.write(maker, key) for maker in range(makers.many)]
        told = [(text, makers.who(key, text)) for text in makers.texts()]
        entries.append((1, written, [(text, maker) for text, maker in told if maker is not None]))
    return Shared(entries)
