"""Points [1] and [11]: classes of texts with the same readable ones."""

import unittest
from itertools import combinations, product

from marktruly.changes import Changes, classes, exchanged, parting, struck, unchanged
from marktruly.errors import NotClasses


def first_pair(changes):
    """The first pair whose readable texts are neither the same nor apart."""
    for text, other in combinations(changes.texts(), 2):
        one, two = set(changes.of(text)), set(changes.of(other))
        if one != two and one & two:
            return text, other
    return None


def told_classes(changes):
    """The texts, put together by their readable ones."""
    return tuple(sorted({
        tuple(other for other in changes.texts() if changes.of(other) == changes.of(text)) for text in changes.texts()
    }))


def all_changes():
    """All changes of up to three texts that make each of these, or another text, readable or not."""
    for many in range(4):
        texts = "cab"[:many]
        rests = [[told for told in texts + "z" if told != text] for text in texts]
        choices = [[row for size in range(len(rest) + 1) for row in combinations(rest, size)] for rest in rests]
        for readable in product(*choices):
            yield Changes(list(zip(texts, readable)))


class ClassesTest(unittest.TestCase):

    def assert_classes(self, changes):
        pair = first_pair(changes)
        self.assertEqual(parting(changes), pair)
        self.assertEqual(parting(changes=changes), pair)
        if pair is None:
            for told in (classes(changes), classes(changes=changes)):
                self.assertEqual(told, told_classes(changes))
                self.assertTrue(isinstance(told, tuple) and all(isinstance(row, tuple) for row in told))
            return
        self.assertIs(tuple, parting(changes).__class__)
        before = [(text, changes.of(text)) for text in changes.texts()]
        for _ in range(2):
            with self.assertRaises(NotClasses) as caught:
                classes(changes)
            self.assertEqual((caught.exception.text, caught.exception.other), pair)
        self.assertTrue(changes == Changes(before))

    def test_all_small_changes(self):
        count = 0
        for changes in all_changes():
            self.assert_classes(changes)
            count = count + 1
        self.assertEqual(count, 1 + 2 + 16 + 512)

    def test_larger_changes(self):
        texts = ["".join(letters) for letters in product("ab", "ab", "ab", "abc")]
        groups = Changes([(text, [text[:2] + end for end in ("aa", "ab", "ac", "ba", "bb", "bc")]) for text in texts])
        for changes in (unchanged(texts), exchanged(texts, "ab", 1), struck(texts, 1), groups):
            self.assert_classes(changes)
        self.assertEqual([len(row) for row in classes(groups)], [6, 6, 6, 6])

    def test_as_told(self):
        self.assertEqual(classes(Changes(())), ())
        self.assertIsNone(parting(Changes(())))
        rows = (("d", ("b",)), ("b", ("d",)), ("c", ()), ("a", ("z", "e")), ("e", ("a", "z")))
        self.assertEqual(classes(Changes(rows)), (("a", "e"), ("b", "d"), ("c",)))
        # The later text makes no difference: the pair is ascending, not the first one met in the rows.
        rows = (("d", ("x",)), ("c", ("x",)), ("b", ("y",)), ("a", ("y",)))
        self.assertEqual(parting(Changes(rows)), ("a", "b"))
        # Having the other one's texts among its own is not the same.
        self.assertEqual(parting(Changes((("a", ("b",)), ("b", ())))), ("a", "b"))
        self.assertEqual(parting(Changes((("a", ()), ("b", ()), ("c", ("a",)), ("d", ("b",))))), ("a", "c"))


if __name__ == "__main__":
    unittest.main()
