"""Point [3]: wherever a source and changes are passed together, a text without a row is told ahead of all else."""

import unittest

from marktruly.changes import Changes, unchanged
from marktruly.errors import MarkError, NotClasses, Seen, UnknownText
from marktruly.judges import gap
from marktruly.levels import class_worth
from marktruly.markings import Marking, best_marking, marking_of_row
from marktruly.packing import best_row, price_fault, prices, row_fault, worth
from marktruly.shares import Share
from marktruly.sources import Machine, Table, led
from marktruly.writers import best_writer, lot_bound

LEVEL = Share(1, 3)
ODD_MARKING = Marking(((1, "x", ("y",)), (3, "c", ("c",))))
FINDER = ((1, ("a", "z")), (2, ()), (1, ("c",)))


def asked(source, changes):
    """Every function that is passed a source and changes, each with a fault beside where it has one."""
    texts = source.texts()
    bad_row = [(text, Share(-1 - at, 2)) for at, text in enumerate(texts)]
    bad_paper = ([(text, Share(-1, 2)) for text in texts], [(text, Share(-3, 1)) for text in changes.readable()])
    return (
        ("worth", lambda: worth(source, changes, Share(5, 2))),
        ("best_row", lambda: best_row(source, changes, LEVEL)),
        ("prices", lambda: prices(source, changes, LEVEL)),
        ("row_fault", lambda: row_fault(source, changes, LEVEL, bad_row)),
        ("price_fault", lambda: price_fault(source, changes, bad_paper)),
        ("class_worth", lambda: class_worth(source, changes, LEVEL)),
        ("best_marking", lambda: best_marking(source, changes, LEVEL)),
        ("marking_of_row", lambda: marking_of_row(source, changes, [(text, Share(0, 1)) for text in texts])),
        ("gap", lambda: gap(source, changes, Share(1, 9), ODD_MARKING)),
        ("best_writer", lambda: best_writer(source, changes, FINDER)),
        ("lot_bound", lambda: lot_bound(source, changes, FINDER, texts[::-1])),
        ("lot_bound", lambda: lot_bound(source, changes, FINDER, ())),
        ("led", lambda: led(source, changes)),
    )


class UnknownTextTest(unittest.TestCase):

    def test_first_text_without_a_row(self):
        table = Table((("c", 2), ("a", 1), ("b", 1)))
        machine = Machine("abc", 0, (((1, 0), (2, 0), (1, 0)),), 1)
        # The texts z and y have some readable ones in common: by themselves they are no classes.
        odd = [("z", ("y", "a")), ("y", ("a",)), ("x", ("c",))]
        for source in (table, machine):
            for texts, text in (("", "a"), ("a", "b"), ("b", "a"), ("ab", "c"), ("cb", "a"), ("ca", "b"), ("c", "a")):
                for rows in (odd, []):
                    changes = Changes([(told, ("a", "z")) for told in texts] + rows)
                    for name, ask in asked(source, changes):
                        with self.assertRaises(UnknownText, msg=name) as caught:
                            ask()
                        self.assertEqual(caught.exception.text, text, name)
                        self.assertTrue(isinstance(caught.exception, MarkError))

    def test_none_where_all_texts_have_a_row(self):
        source = Table((("c", 2), ("a", 1), ("b", 1)))
        others = {"class_worth": NotClasses, "gap": Seen}
        changes = Changes((("c", ("a",)), ("b", ()), ("a", ("b", "q")), ("z", ("a",))))
        for name, ask in asked(source, changes):
            if name in others:
                with self.assertRaises(others[name]):
                    ask()
            else:
                ask()
        for name, ask in asked(source, unchanged(("a", "b", "c"))):
            if name != "gap":
                ask()

    def test_a_letter_of_weight_0_makes_no_text(self):
        machine = Machine("ab", 0, (((0, 0), (1, 0)),), 1)
        for name, ask in asked(machine, Changes((("b", ("a",)),))):
            if name not in ("gap", "marking_of_row"):
                ask()
        for name, ask in asked(machine, unchanged(("a",))):
            with self.assertRaises(UnknownText, msg=name) as caught:
                ask()
            self.assertEqual(caught.exception.text, "b")


if __name__ == "__main__":
    unittest.main()
