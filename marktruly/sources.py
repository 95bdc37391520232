"""Sources of texts: tables, machines, and what is made of them."""

from math import gcd, lcm

from marktruly.basics import block_of, is_number_below, is_weight, readable_of, sum_of_weights
from marktruly.errors import InvalidNumber, InvalidPair
from marktruly.shares import Share


class Table:
    """A source that lists its texts, each with a weight."""

    def __init__(self, pairs):
        weights = {}
        for at, (text, weight) in enumerate(pairs):
            if not is_weight(weight) or text in weights:
                raise InvalidPair(at)
            weights[text] = weight
        self._weights = {text: weights[text] for text in sorted(weights)}
        self.whole = sum(weights.values())

    def texts(self):
        """Return the texts, ascending."""
        return tuple(self._weights)

    def weight_of(self, text):
        """Return the weight of a text, 0 for other texts."""
        return self._weights.get(text, 0)

    def share_of(self, text):
        """Return the share with which a text is drawn."""
        return Share(self.weight_of(text), self.whole)

    def drawn(self, number):
        """Return the text that has this number."""
        if not is_number_below(number, self.whole):
            raise InvalidNumber(number)
        at, _ = block_of(number, list(self._weights.values()))
        return self.texts()[at]


class Machine:
    """A source that draws a text letter by letter, going from state to state."""

    def __init__(self, alphabet, start, rows, length):
        self.alphabet = alphabet
        self.start = start
        self.rows = tuple([tuple([(weight, state) for weight, state in row]) for row in rows])
        self.length = length
        self.unit = 1
        for row in self.rows:
            self.unit = lcm(self.unit, sum_of_weights(row))
        self.whole = 1
        for _ in range(length):
            self.whole = self.whole * self.unit

    def texts(self):
        """Return the texts with a share above 0, ascending."""
        reached = [("", self.start)]
        for _ in range(self.length):
            reached = [
                (text + letter, state)
                for text, before in reached
                for letter, (weight, state) in zip(self.alphabet, self.rows[before])
                if weight > 0
            ]
        return tuple([text for text, state in reached])

    def weight_of(self, text):
        """Return the weight of a text, 0 for other texts."""
        if len(text) != self.length:
            return 0
        weight = 1
        state = self.start
        for letter in text:
            place = self.alphabet.find(letter)
            if place < 0:
                return 0
            weight = weight * self._sizes(state)[place]
            state = self.rows[state][place][1]
        return weight

    def share_of(self, text):
        """Return the share with which a text is drawn."""
        return Share(self.weight_of(text), self.whole)

    def drawn(self, number):
        """Return the text that has this number."""
        if not is_number_below(number, self.whole):
            raise InvalidNumber(number)
        text = ""
        state = self.start
        left = number
        block = self.whole
        for _ in range(self.length):
            # All texts that begin alike lie side by side, so one letter after the other is found.
            each = block // self.unit
            blocks = [size * each for size in self._sizes(state)]
            place, left = block_of(left, blocks)
            block = blocks[place]
            text = text + self.alphabet[place]
            state = self.rows[state][place][1]
        return text

    def _sizes(self, state):
        """Return what each letter takes of the unit in this state."""
        row = self.rows[state]
        scale = self.unit // sum_of_weights(row)
        return [weight * scale for weight, following in row]


def _reduced(weights):
    """Return the table of a dict of weights, those of 0 left out, without a common divisor."""
    divisor = 0
    for weight in weights.values():
        divisor = gcd(divisor, weight)
    return Table([(text, weights[text] // divisor) for text in weights if weights[text] > 0])


def _weights_of(source):
    """Return the weights of a source's texts."""
    return {text: source.weight_of(text) for text in source.texts()}


def table_of(source):
    """Return the table with the same shares whose weights have no common divisor."""
    return _reduced(_weights_of(source))


def mixed(source, other, part):
    """Return the table of a text of source with this part, of other with the rest."""
    one = part.over * other.whole
    rest = (part.under - part.over) * source.whole
    texts = sorted(set(source.texts()) | set(other.texts()))
    return _reduced({text: source.weight_of(text) * one + other.weight_of(text) * rest for text in texts})


def behind(source, other):
    """Return the table of a text of source followed by a text of other."""
    fronts = _weights_of(source)
    backs = _weights_of(other)
    weights = {}
    for front in fronts:
        for back in backs:
            text = front + back
            weights[text] = weights.get(text, 0) + fronts[front] * backs[back]
    return _reduced(weights)


def led(source, changes):
    """Return the table of a text of source that is changed into one of its readable texts."""
    readable = readable_of(source.texts(), changes)
    many = 1
    for text in readable:
        many = lcm(many, len(readable[text]))
    weights = {}
    for text in readable:
        each = source.weight_of(text) * (many // len(readable[text]))
        for told in readable[text]:
            weights[told] = weights.get(told, 0) + each
    return _reduced(weights)


def alike(source, other):
    """Tell whether every text has the same share in both sources."""
    # In both, all shares make 1: where these are the same, other has no further text.
    for text in source.texts():
        if source.weight_of(text) * other.whole != other.weight_of(text) * source.whole:
            return False
    return True
