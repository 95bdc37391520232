"""What the tests of packing, levels, markings and judges use: many sources with changes, and plain judgements."""

from fractions import Fraction

from marktruly.changes import Changes, exchanged, put_in, struck, unchanged
from marktruly.markings import Marking
from marktruly.shares import Share
from marktruly.sources import Table
from samples import fraction_of, shares_of, sources

LETTERS = "hgfedcba"
# Rows (readable texts beside the text itself) that meet in pairs, paths, rings, stars, and not at all.
SHAPES = (
    {"a": ""},
    {"a": "xyz"},
    {"a": "", "b": ""},
    {"a": "z", "b": "z"},
    {"a": "b", "b": ""},
    {"a": "x", "b": "xy", "c": "y"},
    {"a": "xz", "b": "xy", "c": "yz"},
    {"a": "", "b": "a", "c": "ab"},
    {"a": "wxy", "b": "w", "c": "x", "d": "y"},
    {"a": "vz", "b": "vw", "c": "wx", "d": "xy", "e": "yz"},
    {"a": "bc", "b": "ac", "c": "ab", "d": "e", "e": "d", "f": ""},
    {"a": "tz", "b": "tu", "c": "uv", "d": "vw", "e": "wx", "f": "xy", "g": "yz"},
    {"a": "bh", "b": "ac", "c": "bd", "d": "ce", "e": "df", "f": "eg", "g": "fh", "h": "ga"},
    {"a": "stuv", "b": "uvwx", "c": "wxyz", "d": "syt", "e": "xzu", "f": "vys", "g": "twz", "h": "suwy"},
)
LEVELS = tuple([Share(over, under) for over, under in (
    (1, 10 ** 40), (1, 100), (1, 8), (1, 5), (1, 4), (3, 10), (1, 3), (3, 8), (2, 5), (1, 2), (10 ** 39 + 7, 2 * 10 ** 39),
    (3, 5), (7, 8), (10 ** 40 - 1, 10 ** 40), (1, 1), (10 ** 40, 10 ** 40 - 1), (3, 2), (10 ** 40, 1),
)])


class Dice:
    """Numbers that look drawn, the same ones in each run."""

    def __init__(self, start):
        self.state = start

    def below(self, end):
        self.state = (self.state * 6364136223846793005 + 1442695040888963407) & (2 ** 64 - 1)
        return (self.state >> 33) % end

    def some(self, texts, part):
        """About one in so many of the texts."""
        return [text for text in texts if self.below(part) == 0]


def share_from(fraction):
    return Share(fraction.numerator, fraction.denominator)


def shaped():
    """Each of the shapes with a table of equal weights, one of unlike small ones, one of large ones."""
    for shape in SHAPES:
        changes = Changes([(text, tuple(shape[text])) for text in shape])
        for weight in (lambda at: 1, lambda at: 2 + at * at % 7, lambda at: 10 ** 39 + 7 ** (at + 30)):
            yield Table([(text, weight(at)) for at, text in enumerate(shape)]), changes


def drawn(many, start):
    """Tables of 1 to 8 texts with at most 16 readable ones; the changes tell of further texts, too."""
    dice = Dice(start)
    for at in range(many):
        texts = LETTERS[:1 + dice.below(8)]
        top = (2, 5, 100, 10 ** 39)[dice.below(4)]
        table = Table([(text, 1 + dice.below(top) * (1 + dice.below(10))) for text in texts])
        part = 2 + dice.below(5)
        rows = [(text, dice.some("abcdefghijklmnop", part)) for text in LETTERS[:8]]
        if at % 2 == 0:
            rows = [row for row in rows if row[0] in texts] + [("other", ("p", "farther"))]
        yield table, Changes(rows)


def made():
    """Small tables and machines of the samples with the changes that the package makes."""
    for source in sources():
        texts = source.texts()
        if len(texts) > 8:
            continue
        for changes in (
            unchanged(texts), exchanged(texts, "a", 1), exchanged(texts, "ab", 1), struck(texts, 1),
            put_in(texts, "b", 1), Changes([(text, texts) for text in texts]),
        ):
            if len({told for text in texts for told in changes.of(text)}) <= 16:
                yield source, changes


def packings(many=40):
    """Sources with changes, at most 8 texts that have at most 16 unlike readable ones."""
    return list(shaped()) + list(made()) + list(drawn(many, 7))


def judged():
    """Sources with changes that rows and prices are judged for: those of packings, and ones of up to 24 texts."""
    large = [source for source in sources() if len(source.texts()) <= 24]
    return packings(20) + [(source, changes) for source in large for changes in (
        unchanged(source.texts()), struck(source.texts(), 1), exchanged(source.texts(), "ab", 1))]


def capped(level):
    """The Fraction of a level, 1 for one above 1."""
    return min(fraction_of(level), Fraction(1))


def row_problem(source, changes, level, row):
    """What is wrong with a row, by its plain meaning: None, or what row_fault has to tell."""
    shares = {text: fraction_of(share) for text, share in row}
    for text, share in sorted(shares_of(source).items()):
        if not 0 <= shares[text] <= share:
            return "share", text
    for told in sorted({other for text in changes.texts() for other in changes.of(text)}):
        if sum(shares[text] for text in source.texts() if told in changes.of(text)) > capped(level):
            return "level", told
    return None


def price_problem(source, changes, paper):
    """What is wrong with prices, by their plain meaning: None, or what price_fault has to tell."""
    first, second = [{text: fraction_of(share) for text, share in row} for row in paper]
    for text, share in sorted(first.items()) + sorted(second.items()):
        if share < 0:
            return "below", text
    for text in sorted(source.texts()):
        if first[text] + sum(second[told] for told in changes.of(text)) < 1:
            return "short", text
    return None


def plain_cost(source, level, paper):
    """The cost of prices, by its plain meaning."""
    shares = shares_of(source)
    own = sum(shares[text] * fraction_of(share) for text, share in paper[0])
    return own + capped(level) * sum(fraction_of(share) for _, share in paper[1])


def row_total(row):
    """The sum of a row, by its plain meaning."""
    return sum((fraction_of(share) for _, share in row), Fraction(0))


def drawn_markings(many, start):
    """Markings with 1 to 60 keys that write and accuse single letters, with changes for what they write."""
    dice = Dice(start)
    for _ in range(many):
        texts = LETTERS[:1 + dice.below(8)]
        keys, top = 1 + dice.below((3, 12, 60)[dice.below(3)]), (1, 9, 10 ** 40)[dice.below(3)]
        changes = Changes([(text, dice.some("abcdefghijkl", 2 + dice.below(5))) for text in LETTERS])
        entries = []
        for _ in range(keys):
            text = texts[dice.below(len(texts))]
            accused = dice.some("abcdefghijklz", 1 + dice.below(4))
            # About half of the keys accuse all that may be read of their text: found by whoever looks for it.
            accused = sorted({*accused, *changes.of(text)}) if dice.below(2) == 0 else accused[::-1]
            entries.append((1 + dice.below(top), text, accused))
        yield Marking(entries), changes
