"""Papers: tables, changes, markings and prices as lines of text."""

from marktruly.changes import Changes
from marktruly.errors import InvalidText
from marktruly.markings import Marking
from marktruly.shares import read_share
from marktruly.sources import Machine, Table, table_of


def barred(text):
    """Return a text between its bars."""
    told = text.replace("~", "~0").replace("|", "~1")
    return f"|{told}|"


def _line(parts):
    """Return the line of some parts."""
    return " ".join(parts) + "\n"


def _barred_all(text, others):
    """Return a text and others between their bars, as parts of a line."""
    return [barred(told) for told in (text, *others)]


def write_table(source):
    """Return the lines of a source's texts and weights."""
    table = table_of(source) if isinstance(source, Machine) else source
    return "".join([_line([barred(text), str(table.weight_of(text))]) for text in table.texts()])


def write_changes(changes):
    """Return the lines of texts, each with its readable ones."""
    return "".join([_line(_barred_all(text, changes.of(text))) for text in changes.texts()])


def write_marking(marking):
    """Return the lines of a marking's keys."""
    entries = marking.entries
    return "".join([_line([str(weight)] + _barred_all(text, accused)) for weight, text, accused in entries])


def write_prices(paper):
    """Return the lines of two rows of pairs of text and share."""
    lines = []
    for mark, row in zip("uv", paper):
        lines.extend([_line([mark, barred(text), share.written()]) for text, share in row])
    return "".join(lines)


def _is_sign(sign):
    """Tell whether a string of one character is a sign."""
    # 37 is the one character from the blank to ~ that is none.
    return 32 <= ord(sign) <= 126 and ord(sign) != 37


def text_in(part):
    """Return the text that stands between bars in this part of a line, or None."""
    text = part[1:-1].replace("~1", "|").replace("~0", "~")
    # Writing it again shuts out lacking bars, bars inside, and ~ before anything else than 0 and 1.
    if barred(text) != part or not all([_is_sign(sign) for sign in text]):
        return None
    return text


def weight_in(part):
    """Return the integer from 1 on that this part of a line tells, or None."""
    if not part.isascii() or not part.isdigit() or part.startswith("0"):
        return None
    return int(part)


def share_in(part):
    """Return the share that this part of a line tells, or None."""
    try:
        return read_share(part)
    except InvalidText:
        return None


def _parts_of(line):
    """Return the parts of a line: blanks between bars part nothing."""
    parts = []
    part = ""
    inside = False
    for sign in line:
        if sign == " " and not inside:
            parts.append(part)
            part = ""
            continue
        if sign == "|":
            inside = not inside
        part = part + sign
    return [*parts, part]


def _texts_in(parts):
    """Return the texts of these parts, or None if one tells none."""
    texts = [text_in(part) for part in parts]
    return None if None in texts else texts


def _is_ascending(texts):
    """Tell whether texts are ascending, none twice."""
    return all([text < other for text, other in zip(texts, texts[1:])])


def _pair_in(line):
    """Return the text and the weight that a line of a table tells, or None."""
    parts = _parts_of(line)
    if len(parts) != 2:
        return None
    text = text_in(parts[0])
    weight = weight_in(parts[1])
    return None if text is None or weight is None else (text, weight)


def _row_in(line):
    """Return the text and the readable texts that a line of changes tells, or None."""
    texts = _texts_in(_parts_of(line))
    if texts is None or texts[0] not in texts[1:] or not _is_ascending(texts[1:]):
        return None
    return texts[0], texts[1:]


def _key_in(line):
    """Return the weight, the text and the accused texts that a line of a marking tells, or None."""
    parts = _parts_of(line)
    weight = weight_in(parts[0])
    texts = _texts_in(parts[1:])
    if weight is None or texts is None or len(texts) == 0 or not _is_ascending(texts[1:]):
        return None
    return weight, texts[0], texts[1:]


def _price_in(line):
    """Return the mark, the text and the share that a line of prices tells, or None."""
    parts = _parts_of(line)
    if len(parts) != 3 or parts[0] not in ("u", "v"):
        return None
    text = text_in(parts[1])
    share = share_in(parts[2])
    return None if text is None or share is None else (parts[0], text, share)


def _read(text, told_in, follows):
    """Return what the lines of a text tell, each by itself; follows tells whether one may stand behind another."""
    lines = text.split("\n")
    found = []
    for at, line in enumerate(lines[:-1]):
        told = told_in(line)
        if told is None or (at > 0 and not follows(found[-1], told)):
            raise InvalidText(text, at)
        found.append(told)
    # What stands behind the last line feed is a line without an end.
    if lines[-1] != "":
        raise InvalidText(text, len(found))
    return found


def _read_some(text, told_in, follows):
    """Return what the lines of a text tell, one of them at least."""
    found = _read(text, told_in, follows)
    if len(found) == 0:
        raise InvalidText(text, 0)
    return found


def read_table(text):
    """Return the table that is written so."""
    return Table(_read_some(text, _pair_in, lambda before, told: before[0] < told[0]))


def read_changes(text):
    """Return the changes that are written so."""
    return Changes(_read(text, _row_in, lambda before, told: before[0] < told[0]))


def read_marking(text):
    """Return the marking that is written so."""
    return Marking(_read_some(text, _key_in, lambda before, told: True))


def read_prices(text):
    """Return the two rows of pairs of text and share that are written so."""
    lines = _read(text, _price_in, lambda before, told: before[:2] < told[:2])
    return tuple([tuple([(told, share) for mark, told, share in lines if mark == asked]) for asked in ("u", "v")])
