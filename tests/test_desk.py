"""Points [1], [2], [5], [13], [16], [17], [24] and [26]: the desk."""

import unittest

from marktruly.changes import Changes, unchanged
from marktruly.desk import answer
from marktruly.errors import UnknownText
from marktruly.judges import accused_at, found_share, seen_at
from marktruly.packing import worth
from marktruly.papers import (
    barred, read_changes, read_marking, read_table, write_changes, write_marking, write_table)
from marktruly.shares import read_share
from marktruly.sources import Table
from packings import Dice

LINES = (
    "table t |a| 1 |b| 1 |c| 2",
    "changes c |a| |b| ; |b| ; |c|",
    "unchanged u t",
    "mark m t c 1/4",
    "mark n t u 1/4",
)
DEEP = "table t |a| 1 |a| 1"


def after(*lines):
    """The state that these lines leave, which are all answered with ok."""
    state = ()
    for line in lines:
        state, told = answer(state, line)
        assert told == "ok", (line, told)
    return state


class DeskTest(unittest.TestCase):

    def setUp(self):
        self.state = after(*LINES)

    def assert_told(self, line, told, state=None):
        """A line that is not answered with ok is answered so, twice, and the state stays."""
        before = self.state if state is None else state
        for _ in range(2):
            found = answer(before, line)
            self.assertEqual(found, (before, told), line)
            self.assertEqual((found.__class__, found[0].__class__), (tuple, tuple))

    def test_state_as_told(self):
        self.assertEqual(self.state[:2], (
            ("c", ("changes", "|a| |a| |b|\n|b| |b|\n|c| |c|\n")), ("m", ("marking", self.state[1][1][1]))))
        self.assertEqual(self.state[3:], (
            ("t", ("table", "|a| 1\n|b| 1\n|c| 2\n")), ("u", ("changes", "|a| |a|\n|b| |b|\n|c| |c|\n"))))
        self.assertEqual([name for name, _ in self.state], ["c", "m", "n", "t", "u"])
        for part in (self.state, *self.state, *[pair[1] for pair in self.state]):
            self.assertIs(tuple, part.__class__)

    def test_table_lines(self):
        self.assertEqual(after("table zz |b| 2 || 30 |~1~0| " + "9" * 40), (
            ("zz", ("table", "|| 30\n|b| 2\n|~1~0| " + "9" * 40 + "\n")),))
        self.assertEqual(after("table abcdefgh |abcdefghij| 1"), (("abcdefgh", ("table", "|abcdefghij| 1\n")),))
        # Ten signs, although more are written.
        self.assertEqual(after("table a |" + "~0" * 10 + "| 1"), (("a", ("table", "|" + "~0" * 10 + "| 1\n")),))

    def test_changes_lines(self):
        self.assertEqual(after("changes c |b| |z| |b| |a| |z| ; |a|"), (("c", ("changes", "|a| |a|\n|b| |a| |b| |z|\n")),))
        self.assertEqual(after("changes c ||"), (("c", ("changes", "|| ||\n")),))
        self.assertEqual(after("changes c |a| ; |b| |a|"), (("c", ("changes", "|a| |a|\n|b| |a| |b|\n")),))

    def test_unchanged_lines(self):
        state = after("table t |b| 2 |a| 1", "unchanged t t")
        self.assertEqual(state, (("t", ("changes", "|a| |a|\n|b| |b|\n")),))

    def test_mark_lines(self):
        source = Table((("a", 1), ("b", 1), ("c", 2)))
        changes = Changes((("a", ("b",)), ("b", ()), ("c", ())))
        for level in ("1/4", "1/100", "1", "7/3", "2/5", "1/" + "9" * 40):
            sort, text = dict(after(*LINES[:2], "mark m t c " + level))["m"]
            marking = read_marking(text)
            self.assertEqual(sort, "marking")
            self.assertIsNone(seen_at(source, marking))
            self.assertIsNone(accused_at(marking, read_share(level)))
            self.assertTrue(found_share(changes, marking) == worth(source, changes, read_share(level)))
            self.assert_of_a_row(changes, marking)

    def assert_of_a_row(self, changes, marking):
        """First the keys that accuse all readable texts, then those that accuse nothing, each by ascending text."""
        accusing = [text for _, text, accused in marking.entries if accused]
        silent = [text for _, text, accused in marking.entries if not accused]
        self.assertEqual([text for _, text, _ in marking.entries], accusing + silent)
        self.assertTrue(accusing == sorted(set(accusing)) and silent == sorted(set(silent)))
        for _, text, accused in marking.entries:
            self.assertIn(accused, ((), changes.of(text)))

    def test_asking_lines(self):
        for line, told in (
            ("worth t c 1/4", "1/2"), ("worth t u 1/4", "3/4"), ("worth t c 1", "1"), ("worth t c 5", "1"), ("worth t c 1/3", "2/3"),
            ("found c m", "1/2"), ("found u n", "3/4"), ("seen t m", "unseen"), ("seen t n", "unseen"),
            ("show t", "|a| 1;|b| 1;|c| 2;"), ("show c", "|a| |a| |b|;|b| |b|;|c| |c|;"), ("show u", "|a| |a|;|b| |b|;|c| |c|;"),
        ):
            self.assert_told(line, told)
        self.assert_told("show m", dict(self.state)["m"][1].replace("\n", ";"))

    def test_seen(self):
        for line, told in (
            ("table t |a| 1 |b| 1 |c| 1", "|a|"), ("table t |a| 1 |b| 2 |c| 1", "|b|"), ("table t |a| 1 |b| 1 |c| 1 |d| 1", "|c|"),
            ("table t |a| 2 |b| 2 |c| 4", None), ("table t |~0| 1", "|a|"), ("table t || 1 |a| 1", "||"),
        ):
            state = answer(self.state, line)[0]
            self.assert_told("seen t m", "unseen" if told is None else "seen " + told, state)
        state = after("table t |~| 1".replace("~", "~0"), "unchanged c t", "mark m t c 1/2", "table t |~1| 1")
        self.assert_told("seen t m", "seen |~1|", state)

    def test_a_name_gets_another_paper(self):
        for line in ("table t |x| 5", "changes t |x|", "unchanged t t", "mark t t c 1/2", "unchanged c t", "mark c t c 1", "table a |x| 1"):
            state, told = answer(self.state, line)
            self.assertEqual(told, "ok")
            name = line.split(" ")[1]
            self.assertEqual([pair for pair in state if pair[0] != name], [pair for pair in self.state if pair[0] != name])
            self.assertEqual([pair[0] for pair in state], sorted({name} | {pair[0] for pair in self.state}))
            self.assertEqual(answer(self.state, line), (state, told))
        self.assertEqual(dict(answer(self.state, "table t |x| 5")[0])["t"], ("table", "|x| 5\n"))
        self.assertEqual(dict(answer(self.state, "mark t t c 1/2")[0])["t"][0], "marking")

    def test_the_same_line_again(self):
        state = self.state
        for line in LINES:
            self.assertEqual(answer(state, line), (state, "ok"))

    def test_by_name(self):
        self.assertEqual(answer(state=self.state, line="worth t c 1/4"), (self.state, "1/2"))
        self.assertEqual(answer(state=(), line="show t"), ((), "unknown t"))


class WrongTest(unittest.TestCase):

    def setUp(self):
        self.state = after(*LINES)

    def assert_told(self, line, told, state=None):
        DeskTest.assert_told(self, line, told, state)

    def test_wrong_lines(self):
        for line in (
            "", " ", "  ", "show", "show ", " show t", "show  t", "show t ", "show t t", "Show t", "shown t", "show T", "show t1", "show |t|",
            "show abcdefghi", "table", "table t", "table t |a|", "table |a| 1", "table t |a| 1 |b|", "table t |a| 1  |b| 1", "table t |a| 0",
            "table t |a| 01", "table t |a| -1", "table t |a| +1", "table t |a| 1/2", "table t a 1", "table t |a 1", "table t |a|1",
            "table t | 1", "table t |a b| 1", "table t |;| 1", "table t |a;| 1", "table t |~| 1", "table t |~2| 1", "table t |a|b| 1",
            "table t |abcdefghijk| 1", "table t |a| 1" + "0" * 40, "table t |a| 1 1 |b|", "table t 1 |a|", "table tabletabl |a| 1",
            "table t |a| 1 ;", "table t ; |a| 1", "table T |a| 1", "table t |a| 1 |a| x", "table t |a| 1 |a| 0",
            "changes", "changes c", "changes c ;", "changes c |a| ;", "changes c ; |a|", "changes c |a| ; ; |b|", "changes c |a| |b|;", "changes c |a|; |b|",
            "changes c |a| |b| ;|c|", "changes c |a| b", "changes |a| |b|", "changes c |a| |abcdefghijk|", "changes c |a| |;|", "changes c |a| ; |a| ; b",
            "changes C |a|", "changes c  |a|", "changes c |a| 1", "changes c |a| |~3|",
            "unchanged", "unchanged u", "unchanged u t t", "unchanged u |a|", "unchanged U t", "unchanged u T",
            "mark", "mark m t c", "mark m t 1/4", "mark m t c 0", "mark m t c -1/2", "mark m t c 2/4", "mark m t c 1/0", "mark m t c 2/1",
            "mark m t c +1", "mark m t c 01", "mark m t c x", "mark m t c 1/4 1", "mark m t c 0/1", "mark 1 t c 1", "mark m t c 1/", "mark m t c /2",
            "worth t c", "worth t c 0", "worth t c 1/4 1/4", "worth t c -1", "worth T c 1", "worth t c 0.5", "worth t 1 c", "worth x t c 1",
            "found c", "found c m m", "found c 1", "found C m", "seen t", "seen t m m", "seen t |m|", "gap t c m 1", "t", "table\nt |a| 1",
            ";", "|a|", "worthless t c 1", "new t", "any t", "level 1",
        ):
            self.assert_told(line, "wrong")
            self.assert_told(line, "wrong", ())

    def test_unknown_names(self):
        for line, name in (
            ("show x", "x"), ("show abcdefgh", "abcdefgh"), ("unchanged u x", "x"), ("unchanged x c", "c"), ("unchanged t m", "m"),
            ("mark x y z 1", "y"), ("mark x t z 1", "z"), ("mark x t t 1", "t"), ("mark x c c 1", "c"), ("mark m t m 1/2", "m"),
            ("worth x y 1", "x"), ("worth t y 1", "y"), ("worth c t 1", "c"), ("worth t m 1", "m"), ("worth m c 1", "m"),
            ("found x y", "x"), ("found c y", "y"), ("found m c", "m"), ("found t m", "t"), ("found c c", "c"), ("found c t", "t"),
            ("seen x y", "x"), ("seen t y", "y"), ("seen m t", "m"), ("seen c m", "c"), ("seen t t", "t"), ("seen t u", "u"),
        ):
            self.assert_told(line, "unknown " + name)

    def test_unknown_names_without_papers(self):
        for line in LINES[2:] + ("worth t c 1", "show t", "seen t m"):
            asked = line.split(" ")[2 if line in LINES else 1]
            self.assert_told(line, "unknown " + asked, ())
        self.assert_told("found c m", "unknown c", ())
        self.assert_told("found c m", "unknown m", after(*LINES[:2]))

    def test_texts_given_twice(self):
        for line in (
            DEEP, "table t |a| 1 |b| 2 |c| 3 |b| 2", "table x || 1 || 2", "changes c |a| ; |a|", "changes c |a| |b| ; |b| ; |a| |c|",
            "changes x || ; |a| ; ||",
        ):
            self.assert_told(line, "error InvalidPair")
            self.assert_told(line, "error InvalidPair", ())
        self.assertEqual(answer((), "changes c |a| |b| |b| |a|")[1], "ok")

    def test_texts_without_a_row(self):
        state = after("table t |a| 1 |b| 1 |c| 2", "changes c |a| |b| ; |c|", "unchanged u t", "mark m t u 1/4", "changes e |z|")
        for line in ("worth t c 1/4", "mark m t c 1/4", "mark x t c 1", "found c m", "found e m", "worth t e 2", "mark e t e 1"):
            self.assert_told(line, "error UnknownText", state)
        self.assert_told("seen t m", "unseen", state)
        self.assert_told("found u m", "3/4", state)
        # First what is unknown, then what has no row.
        self.assert_told("mark x y c 1", "unknown y", state)
        self.assert_told("worth t c 0", "wrong", state)
        # A text that is never written needs no row.
        self.assertEqual(answer(state, "table t |a| 1 |c| 1")[1], "ok")
        self.assert_told("worth t c 1", "1", answer(state, "table t |a| 1 |c| 1")[0])

    def test_lines_of_400_signs(self):
        letters = "ABCDEFGHIJKLMNOPQRSTUVWX"
        line = "table t " + " ".join(["|" + letter + "| " + "9" * (10 + at % 3) for at, letter in enumerate(letters[:22])])
        line = line + " |z| " + "1" * (395 - len(line))
        state, told = answer((), line)
        self.assertEqual((len(line), told, len(read_table(state[0][1][1]).texts())), (400, "ok", 23))
        line = "changes c " + " ; ".join(["|" + letter + "| |xyz| |" + letter * 4 + "|" for letter in letters[:20]])
        line = line + " |" + "z" * (397 - len(line)) + "|"
        state, told = answer((), line)
        self.assertEqual((len(line), told, len(read_changes(state[0][1][1]).texts())), (400, "ok", 20))
        for line in ("a" * 400, " " * 400, "show " + "a" * 395, "|" * 400, ";" * 400, "table t " + "|" * 392):
            self.assert_told(line, "wrong")
        line = "mark m t c 1" + "0" * 388
        self.assertEqual((len(line), answer(self.state, line)[1]), (400, "ok"))

    def test_what_was_passed_stays(self):
        state = after(*LINES)
        before = repr(state)
        for line in ("table t |q| 1", "show t", "mark m t c 1", "wrong"):
            answer(state, line)
        self.assertEqual(repr(state), before)


class ManyLinesTest(unittest.TestCase):

    def plain(self, papers, line):
        """What a line of this test's forms does to papers that are kept as values: the answer."""
        word, *rest = line.split(" ")
        kinds = {"unchanged": (0, Table), "worth": (Table, Changes), "seen": (Table, "m"), "found": (Changes, "m"),
                 "mark": (0, Table, Changes), "show": ((),)}[word]
        for kind, name in zip(kinds, rest):
            value = papers.get(name)
            if kind == 0:
                continue
            fits = hasattr(value, "entries") if kind == "m" else value is not None if kind == () else isinstance(value, kind)
            if not fits:
                return "unknown " + name
        values = [papers.get(name) for name in rest]
        try:
            return self.plain_action(papers, word, rest, values)
        except UnknownText:
            return "error UnknownText"

    def plain_action(self, papers, word, rest, values):
        if word == "unchanged":
            papers[rest[0]] = unchanged(values[1].texts())
        elif word == "mark":
            worth(values[1], values[2], read_share(rest[3]))
            papers[rest[0]] = None
        elif word == "worth":
            return worth(values[0], values[1], read_share(rest[2])).written()
        elif word == "seen":
            text = seen_at(*values)
            return "unseen" if text is None else "seen " + barred(text)
        elif word == "found":
            return found_share(*values).written()
        else:
            return self.text_of(values[0])[1].replace("\n", ";")
        return "ok"

    def text_of(self, value):
        if isinstance(value, Table):
            return "table", write_table(value)
        if isinstance(value, Changes):
            return "changes", write_changes(value)
        return "marking", write_marking(value)

    def drawn_line(self, dice):
        """A line, and what it gives if it lists a paper itself."""
        # Mostly a name that has a paper of the sort; now and then any name.
        table, changes, marking, name = [
            names[dice.below(len(names))] if dice.below(9) else "stcdmnx"[dice.below(7)] for names in ("st", "cd", "mn", "stcdmn")]
        level = ("1/4", "1", "2/7", "9/2")[dice.below(4)]
        texts = dice.some("pqrs", 2) or ["p"]
        at = dice.below(14)
        if at == 0:
            weights = [1 + dice.below(4) for _ in texts]
            pairs = [f"|{text}| {weight}" for text, weight in zip(texts, weights)]
            return f"table {table} " + " ".join(pairs), (table, Table(list(zip(texts, weights))))
        if at == 1:
            rows = [(text, dice.some("pqr", 2)) for text in texts]
            told = [" ".join(["|" + one + "|" for one in (text, *row)]) for text, row in rows]
            return f"changes {changes} " + " ; ".join(told), (changes, Changes(rows))
        lines = (f"unchanged {changes} {table}", f"mark {marking} {table} {changes} {level}", f"show {name}",
                 f"worth {table} {changes} {level}", f"found {changes} {marking}", f"seen {table} {marking}")
        return lines[at // 2 - 1], None

    def test_many_lines(self):
        dice, state, papers, answers = Dice(40), (), {}, {}
        for _ in range(3000):
            line, given = self.drawn_line(dice)
            if given is None:
                told = self.plain(papers, line)
            else:
                papers[given[0]] = given[1]
                told = "ok"
            state, found = answer(state, line)
            self.assertEqual(found, told, line)
            # Which marking it is is not promised: it is taken over from the state.
            papers = {name: read_marking(dict(state)[name][1]) if value is None else value for name, value in papers.items()}
            self.assertEqual(state, tuple([(name, self.text_of(papers[name])) for name in sorted(papers)]))
            answers[found.split(" ")[0]] = answers.get(found.split(" ")[0], 0) + 1
        for word in ("ok", "unknown", "error", "unseen", "seen"):
            self.assertGreater(answers[word], 10)

    def test_papers_of_a_state_are_read_back(self):
        readers = {"table": read_table, "changes": read_changes, "marking": read_marking}
        for _, (sort, text) in after(*LINES):
            self.assertEqual(self.text_of(readers[sort](text)), (sort, text))


if __name__ == "__main__":
    unittest.main()
