"""The rules of the language that can be seen in one file: a part of L1 to L28, as a first guard."""

import ast
import pathlib
import re
import unittest

FOLDER = pathlib.Path(__file__).resolve().parent.parent / "fivefault"
FILES = sorted(FOLDER.glob("*.py"))
BARRED_WORDS = ["type", "typing", "typing_extensions", "enum", "Enum", "IntEnum", "StrEnum", "Flag", "IntFlag",
                "Generic", "Protocol", "ABC", "ABCMeta", "namedtuple", "NamedTuple", "TypedDict", "TYPE_CHECKING",
                "abstractmethod"]
BARRED_NAMES = """register mro elements open input law version_info with_traceback add_note attrgetter breakpoint
    builtins compile copyright credits delattr dir eval exec exit gc getattr globals hasattr help id importlib license
    locals methodcaller os quit setattr vars sys chr""".split()
BUILTINS = """len range enumerate zip min max sum abs sorted reversed int str bool list tuple dict set isinstance ord
    repr any all divmod iter next super property staticmethod classmethod Exception ValueError TypeError KeyError
    IndexError LookupError ZeroDivisionError NotImplemented object""".split()
METHODS = """append clear copy count endswith extend find get index insert isalnum isalpha isdigit islower isspace
    isupper items join keys ljust lower lstrip partition pop remove replace reverse rfind rjust rpartition rsplit rstrip
    setdefault split splitlines startswith strip update upper values zfill bit_length add discard""".split()
SPECIAL = """__init__ __eq__ __repr__ __str__ __len__ __enter__ __exit__ __call__ __iter__ __and__ __or__
    __contains__""".split()
NOT_ALLOWED = (ast.Global, ast.AsyncFunctionDef, ast.AsyncFor, ast.AsyncWith, ast.Await, ast.Import, ast.Div)


def bound_names(tree):
    """All names that a file gives a meaning."""
    for node in ast.walk(tree):
        if isinstance(node, (ast.FunctionDef, ast.ClassDef)):
            yield node.name
        if isinstance(node, ast.arg):
            yield node.arg
        if isinstance(node, ast.Name) and isinstance(node.ctx, ast.Store):
            yield node.id
        if isinstance(node, ast.ExceptHandler) and node.name:
            yield node.name
        if isinstance(node, ast.Attribute) and isinstance(node.ctx, ast.Store):
            yield node.attr
        if isinstance(node, ast.ImportFrom):
            yield from [alias.asname or alias.name for alias in node.names]


def is_docstring(node):
    return isinstance(node, ast.Expr) and isinstance(node.value, ast.Constant) and isinstance(node.value.value, str)


class Language(unittest.TestCase):
    def each(self):
        for path in FILES:
            text = path.read_text()
            with self.subTest(file=path.name):
                yield path, text, ast.parse(text)

    def test_files(self):
        self.assertIn("__init__.py", [path.name for path in FILES])
        for path in FOLDER.iterdir():
            if path.name != "__pycache__":
                self.assertRegex(path.name, r"^[a-z0-9_]+\.py$")

    def test_sizes_and_characters(self):
        for path, text, tree in self.each():
            self.assertRegex(text, r"\A[ -~\n]*\Z")
            rows = text.split("\n")
            self.assertLess(len(rows), 400)
            self.assertLessEqual(max(len(row) for row in rows), 120)
            for node in ast.walk(tree):
                if isinstance(node, ast.FunctionDef):
                    self.assertLessEqual(node.end_lineno - node.lineno + 1, 40, node.name)

    def test_words(self):
        for path, text, tree in self.each():
            words = set(re.findall(r"[A-Za-z0-9_]+", text))
            self.assertEqual(words & set(BARRED_WORDS), set())
            self.assertNotRegex(text, "dataclass|overload|contextmanager")
            for node in ast.walk(tree):
                if isinstance(node, ast.Constant) and isinstance(node.value, str):
                    self.assertNotIn(chr(37), node.value)
                self.assertFalse(isinstance(node, ast.Constant) and isinstance(node.value, float))

    def test_imports(self):
        for path, text, tree in self.each():
            for node in ast.walk(tree):
                if isinstance(node, ast.ImportFrom):
                    self.assertIn(node, tree.body)
                    self.assertEqual(node.level, 0)
                    self.assertTrue(node.module.startswith("fivefault."), node.module)
                    origin = ast.parse((FOLDER / (node.module.split(".")[1] + ".py")).read_text())
                    defined = {name for row in origin.body if not isinstance(row, ast.ImportFrom)
                               for name in bound_names(row)}
                    self.assertLessEqual({alias.name for alias in node.names}, defined)

    def test_module_level(self):
        allowed = (ast.ImportFrom, ast.FunctionDef, ast.ClassDef, ast.Assign)
        for path, text, tree in self.each():
            self.assertTrue(is_docstring(tree.body[0]))
            names = []
            for row in tree.body[1:]:
                self.assertIsInstance(row, allowed)
                names += [row.name] if isinstance(row, (ast.FunctionDef, ast.ClassDef)) else []
                names += [target.id for target in row.targets] if isinstance(row, ast.Assign) else []
                names += [alias.name for alias in row.names] if isinstance(row, ast.ImportFrom) else []
            self.assertEqual(len(names), len(set(names)))

    def test_names(self):
        for path, text, tree in self.each():
            for name in bound_names(tree):
                self.assertTrue(name in SPECIAL or not name.startswith("_"), name)
                self.assertNotIn(name, BARRED_NAMES)
            known = set(bound_names(tree)) | set(BUILTINS)
            for node in ast.walk(tree):
                if isinstance(node, ast.Name):
                    self.assertIn(node.id, known)
                    self.assertFalse(isinstance(node.ctx, ast.Store) and node.id in BUILTINS, node.id)

    def test_statements_and_calls(self):
        own = {name for path, text, tree in self.each() for name in bound_names(tree)}
        for path, text, tree in self.each():
            for node in ast.walk(tree):
                self.assertNotIsInstance(node, NOT_ALLOWED)
                if isinstance(node, ast.Call) and isinstance(node.func, ast.Attribute):
                    self.assertIn(node.func.attr, METHODS + SPECIAL + sorted(own))
                if isinstance(node, ast.Call) and isinstance(node.func, ast.Name) and node.func.id in ("any", "all"):
                    self.assertNotIsInstance(node.args[0], ast.GeneratorExp)
                if isinstance(node, ast.Compare) and isinstance(node.ops[0], (ast.Is, ast.IsNot)):
                    self.assertIn(ast.unparse(node.comparators[0]), ("None", "True", "False"))
                if isinstance(node, ast.Raise) and node.exc is not None:
                    self.assertIsInstance(node.exc, ast.Call)


if __name__ == "__main__":
    unittest.main()
