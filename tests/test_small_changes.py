"""Points [2], [7], [9] and [10]: changes of a few signs, one after another, together."""

import unittest
from itertools import combinations, product

from marktruly.changes import Changes, after, exchanged, put_in, struck, together, unchanged
from marktruly.errors import UnknownText

MANY = tuple("".join(letters) for letters in product("ab", "ab", "ab", "abc"))
SHORT = ("", "a", "b", "ab", "a b", "~", "xyzxyz"[:5], "aaaaaa")
FEW = ("", "z", "ab", "ba ", "aaaa", "q~a|;b")
LONG = ("abcdefghij", "          ", "aaaaaaaaaa")
ALPHABETS = ("a", "ab", "bz", " ~", "abcdef")


def exchanges_of(text, alphabet, most):
    """Every text of this length that is like text but at most so many places, which have letters."""
    found = {text}
    for places in combinations(range(len(text)), min(most, len(text))):
        for letters in product(alphabet, repeat=len(places)):
            signs = list(text)
            for place, letter in zip(places, letters):
                signs[place] = letter
            for left in range(len(places) + 1):
                for kept in combinations(places, left):
                    found.add("".join(text[k] if k in kept else signs[k] for k in range(len(text))))
    return tuple(sorted(found))


def strikes_of(text, most):
    """What is left when at most so many places are struck."""
    places = range(len(text))
    return tuple(sorted({
        "".join(text[k] for k in places if k not in gone)
        for many in range(most + 1) for gone in combinations(places, many)
    }))


def insertions_of(text, alphabet, most):
    """Every text that gives text again when the letters at so many places are struck."""
    found = set()
    for many in range(most + 1):
        length = len(text) + many
        for places in combinations(range(length), many):
            for letters in product(alphabet, repeat=many):
                rest, put = list(text), dict(zip(places, letters))
                found.add("".join(put[k] if k in put else rest.pop(0) for k in range(length)))
    return tuple(sorted(found))


class SmallChangesTest(unittest.TestCase):

    def assert_rows(self, changes, rows):
        self.assertIs(Changes, changes.__class__)
        self.assertEqual(changes.texts(), tuple(sorted(rows)))
        for text in rows:
            self.assertEqual(changes.of(text), rows[text])

    def cases(self):
        """Texts with each number of changes that the document lets them have."""
        for texts in ((), MANY, SHORT, LONG):
            for most in (0, 1):
                yield texts, most
        for most in (0, 1, 2):
            yield FEW, most
            yield ("",), most

    def test_unchanged(self):
        for texts in ((), MANY, SHORT, FEW, LONG, ("",)):
            for changes in (unchanged(texts), unchanged(list(texts)), unchanged(texts=texts)):
                self.assert_rows(changes, {text: (text,) for text in texts})

    def test_exchanged(self):
        for texts, most in self.cases():
            for alphabet in ALPHABETS:
                rows = {text: exchanges_of(text, alphabet, most) for text in texts}
                self.assert_rows(exchanged(texts, alphabet, most), rows)
                self.assert_rows(exchanged(texts=list(texts), alphabet=alphabet, most=most), rows)

    def test_struck(self):
        for texts, most in self.cases():
            rows = {text: strikes_of(text, most) for text in texts}
            self.assert_rows(struck(texts, most), rows)
            self.assert_rows(struck(texts=list(texts), most=most), rows)

    def test_put_in(self):
        for texts, most in self.cases():
            for alphabet in ALPHABETS:
                rows = {text: insertions_of(text, alphabet, most) for text in texts}
                self.assert_rows(put_in(texts, alphabet, most), rows)
                self.assert_rows(put_in(texts=list(texts), alphabet=alphabet, most=most), rows)

    def test_as_told(self):
        self.assertEqual(exchanged(("x ",), "ab", 1).of("x "), ("a ", "b ", "x ", "xa", "xb"))
        self.assertEqual(exchanged(("x",), "a", 2).of("x"), ("a", "x"))
        self.assertEqual(struck(("aab",), 1).of("aab"), ("aa", "aab", "ab"))
        self.assertEqual(struck(("ab",), 2).of("ab"), ("", "a", "ab", "b"))
        self.assertEqual(put_in(("x",), "ab", 1).of("x"), ("ax", "bx", "x", "xa", "xb"))
        self.assertEqual(put_in(("",), "ab", 2).of(""), ("", "a", "aa", "ab", "b", "ba", "bb"))

    def test_texts_stay(self):
        texts = ["b", "a"]
        for changes in (unchanged(texts), exchanged(texts, "ab", 1), struck(texts, 1), put_in(texts, "a", 1)):
            self.assertEqual(texts, ["b", "a"])
            texts.append("c")
            self.assertEqual(changes.texts(), ("a", "b"))
            texts.pop()

    def test_after_as_told(self):
        first = Changes((("a", ("b",)), ("c", ())))
        second = Changes((("a", ("x",)), ("b", ("y", "c")), ("c", ("a",)), ("d", ("e",))))
        both = after(first=first, second=second)
        self.assert_rows(both, {"a": ("a", "b", "c", "x", "y"), "c": ("a", "c")})
        self.assertTrue(first == Changes((("a", ("b",)), ("c", ()))))
        self.assertTrue(second == Changes((("a", ("x",)), ("b", ("y", "c")), ("c", ("a",)), ("d", ("e",)))))

    def test_after(self):
        for texts in (MANY, SHORT, FEW):
            first = exchanged(texts, "ab", 1)
            for second in (
                unchanged(first.readable()), struck(first.readable(), 1), put_in(first.readable(), "b", 1),
                Changes([(text, first.readable()[::3]) for text in first.readable() + ("more",)]),
            ):
                rows = {
                    text: tuple(sorted({told for between in first.of(text) for told in second.of(between)}))
                    for text in texts
                }
                self.assert_rows(after(first, second), rows)

    def test_after_nothing(self):
        self.assert_rows(after(Changes(()), Changes(())), {})
        self.assert_rows(after(Changes(()), unchanged(("a",))), {})

    def test_after_with_unknown_texts(self):
        first = Changes((("c", ("b",)), ("a", ("d", "c"))))
        for texts, text in (
            ((), "a"), (("b", "c", "d"), "a"), (("a", "c", "d"), "b"), (("a", "b"), "c"), (("a", "b", "c", "e"), "d"),
        ):
            second = unchanged(texts)
            for _ in range(2):
                with self.assertRaises(UnknownText) as caught:
                    after(first, second)
                self.assertEqual(caught.exception.text, text)
            self.assert_rows(first, {"c": ("b", "c"), "a": ("a", "c", "d")})
            self.assert_rows(second, {told: (told,) for told in texts})

    def test_together(self):
        for texts in ((), MANY, SHORT, FEW):
            for one, other in (
                (struck(texts, 1), put_in(texts, "ab", 1)), (exchanged(texts, "ab", 1), unchanged(texts)),
                (Changes([(text, ("x", "y")) for text in texts]), Changes([(text, ("y", "")) for text in texts])),
            ):
                rows = {text: tuple(sorted({*one.of(text), *other.of(text)})) for text in texts}
                self.assert_rows(together(one, other), rows)
                self.assert_rows(together(one=other, other=one), rows)
                self.assertEqual((one.texts(), other.texts()), (tuple(sorted(texts)), tuple(sorted(texts))))

    def test_together_with_unknown_texts(self):
        for texts, others, text in (
            ("a", "", "a"), ("", "a", "a"), ("ab", "b", "a"), ("b", "ab", "a"), ("abd", "abc", "c"), ("abc", "abd", "c"),
            ("bc", "ad", "a"), ("ace", "ab", "b"),
        ):
            one, other = Changes([(told, ("0",)) for told in texts]), unchanged(list(others))
            with self.assertRaises(UnknownText) as caught:
                together(one, other)
            self.assertEqual(caught.exception.text, text)
            self.assert_rows(one, {told: ("0", told) for told in texts})
            self.assert_rows(other, {told: (told,) for told in others})


if __name__ == "__main__":
    unittest.main()
