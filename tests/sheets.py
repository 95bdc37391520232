"""What the tests of papers use: papers by their plain meaning, and strings that are almost ones."""

import re
from fractions import Fraction

from marktruly.changes import Changes, exchanged, put_in, unchanged
from marktruly.markings import Marking, best_marking
from marktruly.packing import prices
from marktruly.shares import Share
from marktruly.sources import Machine, Table
from packings import drawn, drawn_markings, shaped
from samples import sources

ONE = 10 ** 39
TEXT = r"\|((?:[ -$&-{}]|~[01])*)\|"
WEIGHT = r"([1-9][0-9]*)"
SHARE = r"(-?[0-9]+(?:/[0-9]+)?)"
LINES = {
    "table": TEXT + " " + WEIGHT,
    "changes": TEXT + "((?: " + TEXT + ")+)",
    "marking": WEIGHT + " " + TEXT + "((?: " + TEXT + ")*)",
    "prices": "([uv]) " + TEXT + " " + SHARE,
}
CHANGES = (
    Changes(()),
    Changes((("", ()),)),
    Changes((("b", ("a", "c", "b")), ("a", ()), ("a b", ("|", "~", "", "a|b ~0")))),
    unchanged(("0", "~", "|", "~1", " ", "a ", " a")),
    exchanged(("ab", "ba"), "ab", 1),
    put_in(("x", ""), " ~", 1),
)
MARKINGS = (
    Marking(((1, "", ()),)),
    Marking(((2, "b", ("c", "a", "b")), (10 ** 40, "a", ("a",)), (3, "b", ()), (2, "b", ("c", "a", "b")))),
    Marking(((7, "|~ ", ("~0", "", "|", "~")), (1, " ", (" ",)))),
)
PAPERS = (
    ((), ()),
    ((("a", Share(1, 2)), ("b", Share(0, 1))), ()),
    ((), (("", Share(-1, 2)), (" ", Share(10 ** 40, 3)), ("a|b", Share(-4, 1)))),
    ((("b", Share(1, 1)), ("c", Share(2, 3)), ("~", Share(1, 10 ** 40))), (("a", Share(5, 7)), ("b", Share(0, 1)))),
)
TABLES = (
    Table((("a", 1),)),
    Table((("", 3), ("a b", 12), ("~", 4), ("|", 10 ** 40), ("~0|", 6), (" ", 1))),
    Table((("b", 2), ("a", 4), ("ab", 100))),
)


def plain_text(text):
    """A text between bars, by its plain meaning."""
    return "|" + "".join([{"~": "~0", "|": "~1"}.get(sign, sign) for sign in text]) + "|"


def plain_share(share):
    return str(Fraction(share.over, share.under))


def plain_lines(sort, value):
    """What the paper of a value says, by its plain meaning: a list of lines without their ends."""
    if sort == "table":
        return [f"{plain_text(text)} {value.weight_of(text)}" for text in sorted(value.texts())]
    if sort == "changes":
        return [" ".join([plain_text(told) for told in (text, *sorted(value.of(text)))]) for text in sorted(value.texts())]
    if sort == "marking":
        return [" ".join([str(weight), *[plain_text(told) for told in (text, *sorted(accused))]])
                for weight, text, accused in value.entries]
    return [f"{mark} {plain_text(text)} {plain_share(share)}" for mark, row in zip("uv", value) for text, share in row]


def texts_in(part):
    return [re.sub("~[01]", lambda found: "~|"[int(found[0][1])], text) for text in re.findall(TEXT, part)]


def place_of(sort, line):
    """What has to ascend from line to line, None for a line that is wrong by itself, () where nothing has to."""
    found = re.fullmatch(LINES[sort], line)
    if found is None:
        return None
    texts = texts_in(line)
    if sort == "table":
        return texts[0]
    if sort == "changes":
        return texts[0] if texts[0] in texts[1:] and ascending(texts[1:]) else None
    if sort == "marking":
        return () if ascending(texts[1:]) else None
    under = found[3].partition("/")[2] or "1"
    if int(under) == 0 or str(Fraction(found[3])) != found[3]:
        return None
    return found[1], texts[0]


def ascending(texts):
    return texts == sorted(set(texts))


def wrong_line(sort, text):
    """The number of the first wrong line of a string, by its plain meaning, or None."""
    *lines, rest = text.split("\n")
    last = None
    for at, line in enumerate(lines):
        place = place_of(sort, line)
        if place is None or (at > 0 and place != () and not last < place):
            return at
        last = place
    if rest:
        return len(lines)
    return 0 if not lines and sort in ("table", "marking") else None


def values():
    """Values of every sort with their sorts."""
    for table in TABLES:
        yield "table", table
    for source in sources():
        if isinstance(source, Table):
            yield "table", source
    for changes in CHANGES:
        yield "changes", changes
    for marking in MARKINGS:
        yield "marking", marking
    for paper in PAPERS:
        yield "prices", paper
    for source, changes in list(shaped())[::4] + list(drawn(12, 3)):
        yield "table", source
        yield "changes", changes
        yield "marking", best_marking(source, changes, Share(2, 7))
        yield "prices", prices(source, changes, Share(2, 7))
    for marking, _ in drawn_markings(8, 5):
        yield "marking", marking


def machines():
    return [source for source in sources() if isinstance(source, Machine) and len(source.texts()) <= 24]


def almost(text):
    """Strings with one sign left out, put in, or exchanged, or one line doubled, left out, or exchanged."""
    for at in range(len(text) + 1):
        yield text[:at] + text[at + 1:]
        yield text[:at]
        for sign in "|~ 01a/\n-+" + chr(37):
            yield text[:at] + sign + text[at:]
            yield text[:at] + sign + text[at + 1:]
    lines = text.splitlines(keepends=True)
    for at in range(len(lines)):
        yield "".join(lines[:at] + lines[at + 1:])
        yield "".join(lines[:at + 1] + lines[at:])
        yield "".join(lines[:at] + lines[at + 1:at + 2] + lines[at:at + 1] + lines[at + 2:])
        yield "".join(lines[:at] + ["\n"] + lines[at:])
