"""Writers: what to write under keys that only tell whom they accuse."""

from math import gcd

from marktruly.basics import readable_of, sum_of_weights
from marktruly.markings import Marking
from marktruly.shares import Share, sum_of


class Handing:
    """Texts hand what they have to keys that can take so much; they are called by their places.

    A key finds some of the texts. What it takes of these is found; the most of it is sought, and what is left is
    handed anyhow.
    """

    def __init__(self, texts, keys, finders):
        self.left = list(texts)
        self.free = list(keys)
        # For each text, the keys that find it.
        self.finders = finders
        self.given = [[0] * len(keys) for _ in texts]
        # For each text that a search reached, the key that could give it back, None for one that has something left.
        self.back = {}
        # For each key that a search reached, the text that could hand it more.
        self.front = {}

    def fill(self):
        """Hand as much as can be to keys that find it; return the texts that the last search reached in vain."""
        key = self.search()
        while key is not None:
            self.hand(key)
            key = self.search()
        return sorted(self.back)

    def search(self):
        """Return a key that can still take something, and that is reached on a shortest way, or None.

        A way goes from a text to a key that finds it, and from a key to a text of which it has taken something.
        """
        queue = [text for text, left in enumerate(self.left) if left > 0]
        self.back = {text: None for text in queue}
        self.front = {}
        at = 0
        while at < len(queue):
            text = queue[at]
            at = at + 1
            for key in self.finders[text]:
                if key in self.front:
                    continue
                self.front[key] = text
                if self.free[key] > 0:
                    return key
                for other in self.takers_from(key):
                    self.back[other] = key
                    queue.append(other)
        return None

    def takers_from(self, key):
        """Return the texts, not reached yet, of which a key has taken something."""
        return [text for text, row in enumerate(self.given) if row[key] > 0 and text not in self.back]

    def way_to(self, key):
        """Return the steps to a key, the last one first: triples of text, key that takes, key that gives back."""
        steps = []
        taker = key
        while taker is not None:
            text = self.front[taker]
            steps.append((text, taker, self.back[text]))
            taker = self.back[text]
        return steps

    def hand(self, key):
        """Hand as much as can be along the way to a key."""
        steps = self.way_to(key)
        first = steps[-1][0]
        amounts = [self.given[text][giver] for text, _, giver in steps if giver is not None]
        amount = min([self.free[key], self.left[first], *amounts])
        for text, taker, giver in steps:
            self.given[text][taker] += amount
            if giver is not None:
                self.given[text][giver] -= amount
        self.free[key] -= amount
        self.left[first] -= amount

    def hand_the_rest(self):
        """Hand what is left to the keys, in order: none of them finds what is left."""
        for text in range(len(self.left)):
            for key in range(len(self.free)):
                amount = min(self.left[text], self.free[key])
                self.given[text][key] += amount
                self.left[text] -= amount
                self.free[key] -= amount


def _finds(accused, readable):
    """Tell whether all readable texts are accused."""
    return all([told in accused for told in readable])


def best_writer(source, changes, finder):
    """Return an unseen marking with a finder's keys that finds the most, and a lot that shows why none finds more."""
    texts = source.texts()
    readable = readable_of(texts, changes)
    finders = [[key for key, (_, accused) in enumerate(finder) if _finds(accused, readable[text])] for text in texts]
    whole = sum_of_weights(finder)
    amounts = [source.weight_of(text) * whole for text in texts]
    handing = Handing(amounts, [weight * source.whole for weight, accused in finder], finders)
    lot = tuple([texts[at] for at in handing.fill()])
    handing.hand_the_rest()
    return _marking_of(texts, finder, handing.given), lot


def _marking_of(texts, finder, given):
    """Return the marking whose keys write what the texts gave to the keys of a finder."""
    divisor = 0
    for row in given:
        for amount in row:
            divisor = gcd(divisor, amount)
    entries = []
    for key, (_, accused) in enumerate(finder):
        for text, row in zip(texts, given):
            if row[key] > 0:
                entries.append((row[key] // divisor, text, accused))
    return Marking(entries)


def lot_bound(source, changes, finder, lot):
    """Return the share above which no unseen marking with a finder's keys finds, told by a lot of texts."""
    readable = readable_of(source.texts(), changes)
    own = sum_of([source.share_of(text) for text in lot])
    found = [weight for weight, accused in finder if any([_finds(accused, readable[text]) for text in lot])]
    return Share(1, 1) - own + Share(sum(found), sum_of_weights(finder))
