"""The rules of ../shared/LANGUAGE.md that can be told from one look at a file of the package.

A test is called after the rules that it looks at. It is stricter than they are where that is simpler.
"""

import ast
import builtins
import re
import unittest
from pathlib import Path

PACKAGE = Path(__file__).resolve().parent.parent / "marktruly"
LIBRARY = {
    "heapq": {"heappush", "heappop", "heapify", "heapreplace", "heappushpop"},
    "math": {"gcd", "lcm", "isqrt", "comb", "perm", "factorial"},
    "itertools": {
        "product", "combinations", "permutations", "chain", "accumulate", "pairwise", "islice", "zip_longest",
    },
    "collections": {"defaultdict", "deque"},
}
BUILTINS = set(
    "len range enumerate zip min max sum abs sorted reversed int str bool bytes list tuple dict set frozenset "
    "isinstance ord repr any all divmod pow map Exception ValueError TypeError KeyError IndexError LookupError "
    "ZeroDivisionError ArithmeticError OverflowError RuntimeError NotImplementedError AttributeError StopIteration "
    "NotImplemented super property staticmethod classmethod iter next".split())
# The methods of strings, lists, dicts, sets, integers and tuples that may be called.
METHODS = set(
    "append clear copy count endswith extend find get index insert isalnum isalpha isdigit islower isspace isupper "
    "items join keys ljust lower lstrip partition pop remove replace reverse rfind rjust rpartition rsplit rstrip "
    "setdefault split splitlines startswith strip update upper values zfill bit_length title capitalize swapcase "
    "casefold center expandtabs removeprefix removesuffix rindex isascii isdecimal isnumeric istitle isidentifier "
    "isprintable add discard".split())
BUILTIN_METHODS = {name for kind in (str, list, dict, set, int, tuple, bytes) for name in dir(kind)}
DOUBLE_UNDERSCORE = set(
    "__init__ __eq__ __repr__ __str__ __len__ __enter__ __exit__ __call__ __iter__ __lt__ __le__ __gt__ __ge__ __ne__ "
    "__add__ __sub__ __mul__ __floordiv__ __mod__ __pow__ __and__ __or__ __xor__ __lshift__ __rshift__ __neg__ "
    "__pos__ __invert__ __abs__ __bool__ __contains__ __getitem__ __setitem__".split())
ATTRIBUTES_NOT_SET = set(
    "items keys values pop update append clear extend insert remove reverse setdefault sort args encode decode hex "
    "fromhex format format_map mro as_integer_ratio bit_count conjugate from_bytes is_integer to_bytes".split())
NAMES_NOT_USED = set(
    "register mro elements open input law version_info with_traceback add_note attrgetter breakpoint builtins compile "
    "copyright credits delattr dir eval exec exit gc getattr globals hasattr help id importlib license locals "
    "methodcaller os quit setattr type vars sys chr".split())
WORDS_NOT_USED = re.compile(
    r"\b(type|typing|typing_extensions|enum|Enum|IntEnum|StrEnum|Flag|IntFlag|Generic|Protocol|ABC|ABCMeta|namedtuple"
    r"|NamedTuple|TypedDict|TYPE_CHECKING|abstractmethod|_wall|_WallAttr)\b|dataclass|overload|contextmanager")
NOT_USED = (
    ast.AsyncFunctionDef, ast.AsyncFor, ast.AsyncWith, ast.Await, ast.Global, ast.Div, ast.GeneratorExp, ast.AnnAssign,
    ast.MatMult, ast.Import,
)


def files():
    return sorted(PACKAGE.glob("*.py"))


def tree_of(path):
    return ast.parse(path.read_text(), str(path))


def parts():
    """All parts of all files, each with a word that tells where it stands."""
    for path in files():
        for part in ast.walk(tree_of(path)):
            yield part, f"{path.name}:{getattr(part, 'lineno', 0)}"


def docstrings_of(tree):
    kinds = (ast.Module, ast.ClassDef, ast.FunctionDef)
    bodies = [part.body for part in ast.walk(tree) if isinstance(part, kinds)]
    return {id(body[0].value) for body in bodies if body and isinstance(body[0], ast.Expr)}


def named(part):
    """The names that a part gives to something."""
    if isinstance(part, (ast.FunctionDef, ast.ClassDef)):
        return [part.name]
    if isinstance(part, ast.arg):
        return [part.arg]
    if isinstance(part, ast.Name) and isinstance(part.ctx, ast.Store):
        return [part.id]
    return []


class LanguageTest(unittest.TestCase):

    def test_l1_l14_files(self):
        found = [path for path in PACKAGE.iterdir() if path.name != "__pycache__"]
        self.assertEqual(sorted(found), files())
        for path in found:
            self.assertRegex(path.name, r"^[a-z][a-z0-9_]*\.py$|^__init__\.py$")

    def test_l10_l14_sizes_and_characters(self):
        for path in files():
            lines = path.read_bytes().decode("ascii").split("\n")
            self.assertLessEqual(len(lines), 399, path)
            for at, line in enumerate(lines):
                self.assertRegex(line, r"^[ -~]{0,120}$", (path, at))
        for part, place in parts():
            if isinstance(part, ast.FunctionDef):
                self.assertLessEqual(part.end_lineno - part.lineno + 1, 40, place)

    def test_l2_l16_imports(self):
        above = {}
        for path in files():
            body = tree_of(path).body
            above[path.stem] = set()
            for at, part in enumerate(body):
                if not isinstance(part, ast.ImportFrom):
                    continue
                self.assertTrue(all(isinstance(other, (ast.ImportFrom, ast.Expr)) for other in body[:at]), path)
                self.assertEqual((part.level, [name.asname for name in part.names]), (0, [None] * len(part.names)))
                names = {name.name for name in part.names}
                if part.module in LIBRARY:
                    self.assertLessEqual(names, LIBRARY[part.module])
                    continue
                self.assertRegex(part.module, r"^marktruly\.[a-z]+$")
                stem = part.module.partition(".")[2]
                defined = [name for other in tree_of(PACKAGE / (stem + ".py")).body for name in self.binds(other)]
                self.assertLessEqual(names, set(defined), path)
                above[path.stem].add(stem)
        for _ in above:
            above = {stem: others.union(*[above[other] for other in others]) for stem, others in above.items()}
        self.assertEqual([stem for stem, others in above.items() if stem in others], [])

    def binds(self, part):
        if isinstance(part, ast.Assign):
            return [target.id for target in part.targets]
        return named(part)

    def test_l3_module_level(self):
        for path in files():
            for at, part in enumerate(tree_of(path).body):
                allowed = (ast.ImportFrom, ast.FunctionDef, ast.ClassDef, ast.Assign)
                self.assertTrue(isinstance(part, allowed) or at == 0 and isinstance(part, ast.Expr), (path, at))

    def test_l5_l12_l28_classes(self):
        for part, place in parts():
            if isinstance(part, ast.FunctionDef) and part.name.startswith("__"):
                self.assertIn(part.name, DOUBLE_UNDERSCORE, place)
            if isinstance(part, ast.ClassDef):
                self.assertEqual(part.decorator_list + part.keywords, [], place)
                self.assertRegex(part.name, r"^[A-Za-z]", place)

    def test_l4_l5_decorators(self):
        for part, place in parts():
            if isinstance(part, ast.FunctionDef):
                self.assertLessEqual(len(part.decorator_list), 1, place)
                for over in part.decorator_list:
                    self.assertIn(getattr(over, "id", None), ("property", "classmethod", "staticmethod"), place)

    def test_l7_l23_stars_over_names_and_lists(self):
        for part, place in parts():
            if isinstance(part, ast.Starred):
                self.assertNotIsInstance(part.value, (ast.Call, ast.GeneratorExp), place)

    def test_l13_one_lambda_on_a_line(self):
        places = [place for part, place in parts() if isinstance(part, ast.Lambda)]
        self.assertEqual(len(places), len(set(places)))

    def test_l6_l7_statements_and_expressions(self):
        for part, place in parts():
            self.assertNotIsInstance(part, NOT_USED, place)
            if isinstance(part, ast.Constant):
                self.assertNotIsInstance(part.value, (float, complex), place)
            if isinstance(part, (ast.BinOp, ast.AugAssign)) and isinstance(part.op, ast.Pow):
                exponent = part.right if isinstance(part, ast.BinOp) else part.value
                self.assertTrue(isinstance(exponent, ast.Constant) and 0 <= exponent.value <= 64, place)

    def test_l8_l15_l17_names(self):
        for part, place in parts():
            for name in named(part):
                self.assertNotIn(name, dir(builtins) if name not in DOUBLE_UNDERSCORE else (), place)
                self.assertNotIn(name, NAMES_NOT_USED, place)
            if isinstance(part, ast.Name) and part.id in dir(builtins):
                self.assertIn(part.id, BUILTINS, place)
            if isinstance(part, ast.Name):
                self.assertNotIn(part.id, NAMES_NOT_USED, place)

    def test_l12_underscores(self):
        for part, place in parts():
            for name in named(part) + ([part.attr] if isinstance(part, ast.Attribute) else []):
                if name not in DOUBLE_UNDERSCORE:
                    self.assertRegex(name, r"^_?[A-Za-z][A-Za-z0-9_]*$|^_$", place)
            if isinstance(part, ast.Name) and part.id == "_":
                self.assertIsInstance(part.ctx, ast.Store, place)

    def test_l25_l26_attributes(self):
        own = {part.name for part, _ in parts() if isinstance(part, ast.FunctionDef)}
        for part, place in parts():
            if isinstance(part, ast.Attribute):
                if isinstance(part.ctx, ast.Store):
                    self.assertNotIn(part.attr, ATTRIBUTES_NOT_SET, place)
                if part.attr in BUILTIN_METHODS and part.attr not in own:
                    self.assertIn(part.attr, METHODS, place)

    def test_l17_words(self):
        for path in files():
            tree = tree_of(path)
            docstrings = docstrings_of(tree)
            words = [part.value for part in ast.walk(tree) if isinstance(part, ast.Constant)
                     and isinstance(part.value, str) and id(part) not in docstrings]
            words = words + [word for part in ast.walk(tree) for word in named(part)]
            words = words + [part.attr for part in ast.walk(tree) if isinstance(part, ast.Attribute)]
            for word in words:
                self.assertIsNone(WORDS_NOT_USED.search(word), (path, word))

    def test_l27_strings(self):
        for path in files():
            tree = tree_of(path)
            docstrings = docstrings_of(tree)
            for part in ast.walk(tree):
                if isinstance(part, ast.Constant) and isinstance(part.value, str) and id(part) not in docstrings:
                    self.assertNotIn(chr(37), part.value, (path, part.lineno))
            self.assertNotRegex(path.read_text(), r"\\[^nt\\\"']", path)


if __name__ == "__main__":
    unittest.main()
