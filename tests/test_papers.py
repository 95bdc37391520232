"""Points [1], [2], [4], [5], [6], [9], [15] and [24]: papers written and read."""

import unittest

from marktruly.changes import Changes
from marktruly.errors import InvalidText, MarkError
from marktruly.markings import Marking
from marktruly.papers import (
    read_changes, read_marking, read_prices, read_table, write_changes, write_marking, write_prices, write_table)
from marktruly.shares import Share
from marktruly.sources import Machine, Table, alike, table_of
from samples import SIGNS, divisor_of
from sheets import almost, machines, plain_lines, values, wrong_line

WRITE = {"table": write_table, "changes": write_changes, "marking": write_marking, "prices": write_prices}
READ = {"table": read_table, "changes": read_changes, "marking": read_marking, "prices": read_prices}
WRONG = {
    "table": (
        ("", 0), ("\n", 0), ("|a| 1", 0), ("|a| 1\n|b| 2", 1), ("|a| 1\n\n", 1), ("|a| 1\n|a| 1\n", 1), ("|b| 1\n|a| 1\n", 1),
        ("|a| 0\n", 0), ("|a| 01\n", 0), ("|a| -1\n", 0), ("|a| +1\n", 0), ("|a|  1\n", 0), ("|a| 1 \n", 0), (" |a| 1\n", 0),
        ("|a|1\n", 0), ("a 1\n", 0), ("|a 1\n", 0), ("a| 1\n", 0), ("|a|b| 1\n", 0), ("|~| 1\n", 0), ("|~2| 1\n", 0),
        ("|a~| 1\n", 0), ("| 1\n", 0), ("|a| 1_0\n", 0), ("|a| 1.0\n", 0), ("|a|\n", 0), ("|a| \n", 0), ("|a| 1 1\n", 0),
        ("|a| 1\n|b| 1\n|c| x\n|d| 1\n|a| 1\n", 2), ("|a| 1\r\n", 0), ("|a| \u0661\n", 0), ("|\u00e9| 1\n", 0), ("|a| 1\n ", 1),
        ("|a\t| 1\n", 0), ("|a\x7f| 1\n", 0), ("|\x1f| 1\n", 0), ("|" + chr(37) + "| 1\n", 0), ("|a| \u00b2\n", 0),
        ("|~0| 1\n|~1| 1\n", 1), ("|aa| 1\n|a| 1\n", 1), ("|a| 1\n|| 1\n", 1), ("|a| 1\x0c|b| 1\n", 0),
    ),
    "changes": (
        ("\n", 0), ("|a|\n", 0), ("|a| |b|\n", 0), ("|a| |b| |a|\n", 0), ("|a| |a| |a|\n", 0), ("|a| |a| |b|", 0),
        ("|a| |a|\n|a| |a|\n", 1), ("|b| |b|\n|a| |a|\n", 1), ("|a| |a| b\n", 0), ("|a| |a|  |b|\n", 0), ("|a| |a||b|\n", 0),
        ("|a| |a| \n", 0), ("|a| |a|\n|b| |a| |c|\n", 1), ("|a| |a|\n|b|\n", 1), ("|a| |a| |b\n", 0),
    ),
    "marking": (
        ("", 0), ("\n", 0), ("1\n", 0), ("1 \n", 0), ("1 |a|", 0), ("0 |a|\n", 0), ("01 |a|\n", 0), ("|a|\n", 0), ("1 |a| |b| |b|\n", 0),
        ("1 |a| |b| |a|\n", 0), ("1 |a|\n1 |a|\n-1 |a|\n", 2), ("1 |a| b\n", 0), ("1  |a|\n", 0), ("1|a|\n", 0), ("1 a\n", 0),
        ("1 |a| \n", 0), ("1 |a|\n1 |a|\n ", 2), ("1/2 |a|\n", 0), ("1 |a| |\n", 0),
    ),
    "prices": (
        ("\n", 0), ("u |a| 1", 0), ("u |a| 2/4\n", 0), ("u |a| 2/1\n", 0), ("u |a| +1\n", 0), ("u |a| -0\n", 0), ("u |a| 01\n", 0),
        ("u |a| 1/-2\n", 0), ("u |a| 1/0\n", 0), ("u |a| 0/1\n", 0), ("w |a| 1\n", 0), ("U |a| 1\n", 0), ("|a| 1\n", 0), ("u |a|\n", 0),
        ("u 1\n", 0), ("u |a| 1 1\n", 0), ("u |a| 1\nu |a| 1\n", 1), ("u |b| 1\nu |a| 1\n", 1), ("u |a| 1\nu |a| 2\n", 1), ("v |a| 1\nu |b| 1\n", 1),
        ("u |a| 1\nv |a| 1\nv |a| 1\n", 2), ("uv |a| 1\n", 0), (" |a| 1\n", 0), ("u |a| 1/2/3\n", 0), ("u |a| /2\n", 0), ("u |a| 1/\n", 0),
        ("u |a| --1\n", 0), ("u |a| -\n", 0),
    ),
}


def same(sort, value, other):
    """Whether two values of a sort are the same."""
    if sort == "changes":
        return value == other
    if sort == "marking":
        return value.entries == other.entries
    if sort == "prices":
        return [[(text, share.written()) for text, share in row] for row in value] == [
            [(text, share.written()) for text, share in row] for row in other]
    return [(text, value.weight_of(text)) for text in value.texts()] == [
        (text, other.weight_of(text)) for text in other.texts()]


class WrittenTest(unittest.TestCase):

    def test_as_told(self):
        for value, write, text in (
            (Table((("b", 20), ("a b", 3), ("", 7), ("|~", 1))), write_table, "|| 7\n|a b| 3\n|b| 20\n|~1~0| 1\n"),
            (Machine("ab", 0, (((2, 0), (4, 0)),), 1), write_table, "|a| 1\n|b| 2\n"),
            (Changes((("b", ("a", "c")), ("a", ()))), write_changes, "|a| |a|\n|b| |a| |b| |c|\n"),
            (Changes(()), write_changes, ""),
            (Marking(((2, "b", ("c", "a")), (1, "~1", ()))), write_marking, "2 |b| |a| |c|\n1 |~01|\n"),
            (((), ()), write_prices, ""),
            (((("a", Share(1, 2)), ("b", Share(0, 1))), (("", Share(-3, 1)),)), write_prices, "u |a| 1/2\nu |b| 0\nv || -3\n"),
            ([[["a", Share(1, 2)]], []], write_prices, "u |a| 1/2\n"),
        ):
            for _ in range(2):
                self.assertEqual(write(value), text)

    def test_by_name(self):
        self.assertEqual(write_table(source=Table((("a", 1),))), "|a| 1\n")
        self.assertEqual(write_changes(changes=Changes((("a", ()),))), "|a| |a|\n")
        self.assertEqual(write_marking(marking=Marking(((1, "a", ()),))), "1 |a|\n")
        self.assertEqual(write_prices(paper=((), (("a", Share(1, 3)),))), "v |a| 1/3\n")
        self.assertEqual(read_table(text="|a| 1\n").texts(), ("a",))
        self.assertEqual(read_changes(text="|a| |a|\n").texts(), ("a",))
        self.assertEqual(read_marking(text="1 |a|\n").texts(), ("a",))
        self.assertEqual(read_prices(text=""), ((), ()))

    def test_all(self):
        for sort, value in values():
            lines = plain_lines(sort, value)
            self.assertEqual(WRITE[sort](value), "".join([line + "\n" for line in lines]))

    def test_weights_of_a_table_stay_as_they_are(self):
        self.assertEqual(write_table(Table((("a", 2), ("b", 4)))), "|a| 2\n|b| 4\n")

    def test_machines(self):
        for machine in machines():
            self.assertEqual(write_table(machine), write_table(table_of(machine)))
            table = read_table(write_table(machine))
            self.assertTrue(alike(machine, table))
            self.assertEqual(divisor_of(table), 1)

    def test_every_sign(self):
        table = Table([(sign, at + 1) for at, sign in enumerate(SIGNS)] + [(SIGNS, 1)])
        self.assertTrue(same("table", read_table(write_table(table)), table))


class ReadTest(unittest.TestCase):

    def test_what_is_written_is_read_back(self):
        kinds = {"table": Table, "changes": Changes, "marking": Marking, "prices": tuple}
        for sort, value in values():
            text = WRITE[sort](value)
            for _ in range(2):
                told = READ[sort](text)
                self.assertIs(kinds[sort], told.__class__)
                self.assertTrue(same(sort, told, value))
                self.assertEqual(WRITE[sort](told), text)

    def test_read_prices_gives_tuples(self):
        told = read_prices("u |a| 1/2\nv |b| 3\n")
        for part in (told, *told, *told[0], *told[1]):
            self.assertIs(tuple, part.__class__)
        self.assertEqual((told[0][0][0], told[0][0][1].written(), told[1][0][1].written()), ("a", "1/2", "3"))

    def test_empty_strings(self):
        self.assertEqual(read_prices(""), ((), ()))
        self.assertTrue(read_changes("") == Changes(()))
        self.assert_wrong("table", "", 0)
        self.assert_wrong("marking", "", 0)

    def test_wrong_ones(self):
        for sort, rows in WRONG.items():
            for text, at in rows:
                self.assertEqual(wrong_line(sort, text), at, repr(text))
                self.assert_wrong(sort, text, at)

    def assert_wrong(self, sort, text, at):
        with self.assertRaises(InvalidText, msg=repr(text)) as caught:
            READ[sort](text)
        self.assertEqual((caught.exception.text, caught.exception.at), (text, at))
        self.assertTrue(isinstance(caught.exception, MarkError) and isinstance(caught.exception, ValueError))

    def test_strings_that_are_almost_papers(self):
        counts = {}
        for sort, value in values():
            text = WRITE[sort](value)
            if len(text) > 150:
                continue
            for other in almost(text):
                at = wrong_line(sort, other)
                counts[sort, at is None] = counts.get((sort, at is None), 0) + 1
                if at is None:
                    self.assertEqual(WRITE[sort](READ[sort](other)), other)
                else:
                    self.assert_wrong(sort, other, at)
        self.assertEqual(len(counts), 8)
        self.assertGreater(min(counts.values()), 50)

    def test_a_paper_of_another_sort(self):
        for sort, value in values():
            text = WRITE[sort](value)
            for other in READ:
                at = wrong_line(other, text)
                if at is not None:
                    self.assert_wrong(other, text, at)


if __name__ == "__main__":
    unittest.main()
