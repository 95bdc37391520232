"""Desk: lines that give papers names, and lines that ask about them."""

from marktruly.changes import Changes, unchanged
from marktruly.errors import InvalidPair, UnknownText
from marktruly.judges import found_share, seen_at
from marktruly.markings import best_marking
from marktruly.packing import worth
from marktruly.papers import (
    barred, read_changes, read_marking, read_table, share_in, text_in, weight_in, write_changes, write_marking,
    write_table)
from marktruly.sources import Table

# What stands behind the first word of a line: the NAME that gets a paper ("new"), the name of a paper of a sort or of
# any sort, or a level.
FORMS = {
    "unchanged": ("new", "table"),
    "mark": ("new", "table", "changes", "level"),
    "worth": ("table", "changes", "level"),
    "found": ("changes", "marking"),
    "seen": ("table", "marking"),
    "show": ("any",),
}


def answer(state, line):
    """Return the state that a line leaves, and its answer."""
    papers = {name: (sort, text) for name, (sort, text) in state}
    words = line.split(" ")
    given, told = _listed(words) if words[0] in ("table", "changes") else _asked(papers, words)
    if given is not None:
        papers[words[1]] = given
    return tuple([(name, papers[name]) for name in sorted(papers)]), told


def _is_name(word):
    """Tell whether a word is a name."""
    return len(word) <= 8 and word.isascii() and word.isalpha() and word.islower()


def _listed(words):
    """Return the paper that a line lists itself, or None, and its answer."""
    if len(words) < 2 or not _is_name(words[1]):
        return None, "wrong"
    rows = _pairs_in(words[2:]) if words[0] == "table" else _rows_in(words[2:])
    if rows is None:
        return None, "wrong"
    try:
        if words[0] == "table":
            return ("table", write_table(Table(rows))), "ok"
        return ("changes", write_changes(Changes(rows))), "ok"
    except InvalidPair:
        return None, "error InvalidPair"


def _short_text_in(word):
    """Return the text that a word of a line tells, or None."""
    text = text_in(word)
    return None if text is None or len(text) > 10 or ";" in text else text


def _short_weight_in(word):
    """Return the weight that a word of a line tells, or None."""
    return weight_in(word) if len(word) <= 40 else None


def _pairs_in(words):
    """Return the pairs of text and weight that the words of a table tell, or None."""
    pairs = [(_short_text_in(text), _short_weight_in(weight)) for text, weight in zip(words[::2], words[1::2])]
    if len(words) == 0 or len(words) != 2 * len(pairs) or any([None in pair for pair in pairs]):
        return None
    return pairs


def _rows_in(words):
    """Return the texts, each with its readable ones, that the words of changes tell, or None."""
    rows = [[]]
    for word in words:
        if word == ";":
            rows.append([])
            continue
        rows[-1].append(_short_text_in(word))
    if any([len(row) == 0 or None in row for row in rows]):
        return None
    return [(row[0], row[1:]) for row in rows]


def _asked(papers, words):
    """Return the paper that a line gives, or None, and its answer, for a line that asks for papers."""
    if not _is_of_form(words):
        return None, "wrong"
    asked = [(sort, word) for sort, word in zip(FORMS[words[0]], words[1:]) if sort != "new"]
    for sort, word in asked:
        if sort != "level" and not _has(papers, sort, word):
            return None, f"unknown {word}"
    action = ACTIONS[words[0]]
    try:
        return action([_value(papers, sort, word) for sort, word in asked])
    except UnknownText:
        return None, "error UnknownText"


def _is_of_form(words):
    """Tell whether the words of a line have its form."""
    sorts = FORMS.get(words[0], ())
    if len(sorts) == 0 or len(words) != len(sorts) + 1:
        return False
    return all([_is_level(word) if sort == "level" else _is_name(word) for sort, word in zip(sorts, words[1:])])


def _is_level(word):
    """Tell whether a word is a share above 0."""
    share = share_in(word)
    return share is not None and share.over > 0


def _has(papers, sort, name):
    """Tell whether a name has a paper of the sort."""
    return name in papers and sort in ("any", papers[name][0])


def _value(papers, sort, word):
    """Return what a word of this sort stands for."""
    if sort == "level":
        return share_in(word)
    text = papers[word][1]
    if sort == "table":
        return read_table(text)
    if sort == "changes":
        return read_changes(text)
    return read_marking(text) if sort == "marking" else text


def _unchanged(values):
    return ("changes", write_changes(unchanged(values[0].texts()))), "ok"


def _mark(values):
    source, changes, level = values
    return ("marking", write_marking(best_marking(source, changes, level))), "ok"


def _worth(values):
    source, changes, level = values
    return None, worth(source, changes, level).written()


def _found(values):
    changes, marking = values
    return None, found_share(changes, marking).written()


def _seen(values):
    source, marking = values
    text = seen_at(source, marking)
    return None, "unseen" if text is None else f"seen {barred(text)}"


def _show(values):
    return None, values[0].replace("\n", ";")


ACTIONS = {
    "unchanged": _unchanged, "mark": _mark, "worth": _worth, "found": _found, "seen": _seen, "show": _show,
}
