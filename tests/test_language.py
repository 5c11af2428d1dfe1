"""The rules of the language that can be seen in one file: a part of L1 to L28, as a first guard."""

import ast
import builtins
import pathlib
import re
import unittest

FOLDER = pathlib.Path(__file__).resolve().parent.parent / "fivefault"
FILES = sorted(FOLDER.glob("*.py"))
BARRED_WORDS = ["type", "typing", "typing_extensions", "enum", "Enum", "IntEnum", "StrEnum", "Flag", "IntFlag",
                "Generic", "Protocol", "ABC", "ABCMeta", "namedtuple", "NamedTuple", "TypedDict", "TYPE_CHECKING",
                "abstractmethod"]
BARRED_NAMES = """register mro elements open input law version_info with_traceback add_note attrgetter breakpoint
    builtins compile copyright credits delattr dir eval exec exit gc getattr globals hasattr help id importlib license
    locals methodcaller os quit setattr vars sys chr""".split()
BUILTINS = """len range enumerate zip min max sum abs sorted reversed int str bool list tuple dict set isinstance ord
    repr any all divmod iter next super property staticmethod classmethod Exception ValueError TypeError KeyError
    IndexError LookupError ZeroDivisionError NotImplemented object""".split()
METHODS = """append clear copy count endswith extend find get index insert isalnum isalpha isdigit islower isspace
    isupper items join keys ljust lower lstrip partition pop remove replace reverse rfind rjust rpartition rsplit rstrip
    setdefault split splitlines startswith strip update upper values zfill bit_length add discard""".split()
SPECIAL = """__init__ __eq__ __repr__ __str__ __len__ __enter__ __exit__ __call__ __iter__ __and__ __or__
    __contains__""".split()
NOT_ALLOWED = (ast.Global, ast.AsyncFunctionDef, ast.AsyncFor, ast.AsyncWith, ast.Await, ast.Import, ast.Div)


def bound_names(tree):
    """All names that a file gives a meaning."""
    for node in ast.walk(tree):
        if isinstance(node, (ast.FunctionDef, ast.ClassDef)):
            yield node.name
        if isinstance(node, ast.arg):
            yield node.arg
        if isinstance(node, ast.Name) and isinstance(node.ctx, ast.Store):
            yield node.id
        if isinstance(node, ast.ExceptHandler) and node.name:
            yield node.name
        if isinstance(node, ast.Attribute) and isinstance(node.ctx, ast.Store):
            yield node.attr
        if isinstance(node, ast.ImportFrom):
            yield from [alias.asname or alias.name for alias in node.names]


def is_docstring(node):
    return isinstance(node, ast.Expr) and isinstance(node.value, ast.Constant) and isinstance(node.value.value, str)


class Language(unittest.TestCase):
    def each(self):
        for path in FILES:
            text = path.read_text()
            with self.subTest(file=path.name):
                yield path, text, ast.parse(text)

    def test_files(self):
        self.assertIn("__init__.py", [path.name for path in FILES])
        for path in FOLDER.iterdir():
            if path.name != "__pycache__":
                self.assertRegex(path.name, r"^[a-z0-9_]+\.py$")

    def test_sizes_and_characters(self):
        for path, text, tree in self.each():
            self.assertRegex(text, r"\A[ -~\n]*\Z")
            rows = text.split("\n")
            self.assertLess(len(rows), 400)
            self.assertLessEqual(max(len(row) for row in rows), 120)
            for node in ast.walk(tree):
                if isinstance(node, ast.FunctionDef):
                    self.assertLessEqual(node.end_lineno - node.lineno + 1, 40, node.name)

    def test_words(self):
        for path, text, tree in self.each():
            words = set(re.findall(r"[A-Za-z0-9_]+", text))
            self.assertEqual(words & set(BARRED_WORDS), set())
            self.assertNotRegex(text, "dataclass|overload|contextmanager")
            for node in ast.walk(tree):
                if isinstance(node, ast.Constant) and isinstance(node.value, str):
                    self.assertNotIn(chr(37), node.value)
                self.assertFalse(isinstance(node, ast.Constant) and isinstance(node.value, float))

    def test_imports(self):
        for path, text, tree in self.each():
            for node in ast.walk(tree):
                if isinstance(node, ast.ImportFrom):
                    self.assertIn(node, tree.body)
                    self.assertEqual(node.level, 0)
                    self.assertTrue(node.module.startswith("fivefault."), node.module)
                    origin = ast.parse((FOLDER / (node.module.split(".")[1] + ".py")).read_text())
                    defined = {name for row in origin.body if not isinstance(row, ast.ImportFrom)
                               for name in bound_names(row)}
                    self.assertLessEqual({alias.name for alias in node.names}, defined)

    def test_module_level(self):
        allowed = (ast.ImportFrom, ast.FunctionDef, ast.ClassDef, ast.Assign)
        for path, text, tree in self.each():
            self.assertTrue(is_docstring(tree.body[0]))
            names = []
            for row in tree.body[1:]:
                self.assertIsInstance(row, allowed)
                names += [row.name] if isinstance(row, (ast.FunctionDef, ast.ClassDef)) else []
                names += [target.id for target in row.targets] if isinstance(row, ast.Assign) else []
                names += [alias.name for alias in row.names] if isinstance(row, ast.ImportFrom) else []
            self.assertEqual(len(names), len(set(names)))

    def test_names(self):
        for path, text, tree in self.each():
            for name in bound_names(tree):
                self.assertTrue(name in SPECIAL or not name.startswith("_"), name)
                self.assertNotIn(name, BARRED_NAMES)
            known = set(bound_names(tree)) | set(BUILTINS)
            for node in ast.walk(tree):
                if isinstance(node, ast.Name):
                    self.assertIn(node.id, known)
                    self.assertFalse(isinstance(node.ctx, ast.Store) and node.id in BUILTINS, node.id)

    def test_statements_and_calls(self):
        own = {name for path, text, tree in self.each() for name in bound_names(tree)}
        for path, text, tree in self.each():
            for node in ast.walk(tree):
                self.assertNotIsInstance(node, NOT_ALLOWED)
                if isinstance(node, ast.Call) and isinstance(node.func, ast.Attribute):
                    self.assertIn(node.func.attr, METHODS + SPECIAL + sorted(own))
                if isinstance(node, ast.Call) and isinstance(node.func, ast.Name) and node.func.id in ("any", "all"):
                    self.assertNotIsInstance(node.args[0], ast.GeneratorExp)
                if isinstance(node, ast.Compare) and isinstance(node.ops[0], (ast.Is, ast.IsNot)):
                    self.assertIn(ast.unparse(node.comparators[0]), ("None", "True", "False"))
                if isinstance(node, ast.Raise) and node.exc is not None:
                    self.assertIsInstance(node.exc, ast.Call)


def functions(tree):
    return [node for node in ast.walk(tree) if isinstance(node, ast.FunctionDef)]


def classes(tree):
    return [node for node in ast.walk(tree) if isinstance(node, ast.ClassDef)]


def decorators(node):
    return [ast.unparse(one) for one in node.decorator_list]


def is_generator(node):
    return any(isinstance(one, (ast.Yield, ast.YieldFrom)) for one in ast.walk(node))


def calls_of(tree, *names):
    return [node for node in ast.walk(tree)
            if isinstance(node, ast.Call) and isinstance(node.func, ast.Name) and node.func.id in names]


class WholePackage(unittest.TestCase):
    """Rules that hold for all files together."""

    def setUp(self):
        self.trees = {path.stem: ast.parse(path.read_text()) for path in FILES}
        self.classes = [node for tree in self.trees.values() for node in classes(tree)]
        self.methods = [node for one in self.classes for node in functions(one)]

    def kept_names(self):
        """The names of all attributes that an object is assigned."""
        return {node.attr for tree in self.trees.values() for node in ast.walk(tree)
                if isinstance(node, ast.Attribute) and isinstance(node.ctx, ast.Store)}

    def class_values(self):
        return {target.id for one in self.classes for row in one.body if isinstance(row, ast.Assign)
                for target in row.targets}

    def test_methods_attributes_and_class_values_have_different_names(self):
        plain = {node.name for node in self.methods if not decorators(node)}
        special = {node.name for node in self.methods if decorators(node)}
        sets = [plain, self.kept_names(), self.class_values()]
        for at, one in enumerate(sets):
            for other in sets[at + 1:]:
                self.assertEqual(one & other, set())
        bound = {node.name for node in self.methods if set(decorators(node)) & {"staticmethod", "classmethod"}}
        properties = special - bound
        self.assertEqual(bound & (plain | self.kept_names() | self.class_values() | properties | set(METHODS)), set())
        self.assertEqual(properties & (plain | self.class_values() | set(METHODS)), set())

    def test_decorators(self):
        for node in self.methods:
            self.assertLessEqual(len(node.decorator_list), 1)
            for word in decorators(node):
                self.assertRegex(word, r"^(property|staticmethod|classmethod|[a-z_]+\.setter)$")
        for tree in self.trees.values():
            for node in functions(tree):
                if node not in self.methods and node.name not in [one.name for one in self.methods]:
                    self.assertEqual(node.decorator_list, [])

    def test_attributes_that_are_read_are_assigned(self):
        known = self.kept_names() | self.class_values() | {node.name for node in self.methods}
        for tree in self.trees.values():
            for node in ast.walk(tree):
                if isinstance(node, ast.Attribute):
                    self.assertIn(node.attr, known | set(METHODS) | {"setter"})

    def test_generators(self):
        nodes = [node for tree in self.trees.values() for node in functions(tree)]
        names = [node.name for node in nodes if is_generator(node)]
        self.assertIn("walk", names)
        for name in names:
            self.assertEqual([node.name for node in nodes].count(name), 1, name)
            self.assertNotIn(name, METHODS)
        for tree in self.trees.values():
            heads = [node.iter for node in ast.walk(tree) if isinstance(node, (ast.For, ast.comprehension))]
            heads += [call.args[0] for call in calls_of(tree, "list", "tuple") if call.args]
            for node in ast.walk(tree):
                if isinstance(node, ast.Call):
                    name = node.func.attr if isinstance(node.func, ast.Attribute) else ast.unparse(node.func)
                    self.assertTrue(name not in names or node in heads, name)

    def test_what_is_iterated_on_the_spot(self):
        for tree in self.trees.values():
            heads = [node.iter for node in ast.walk(tree) if isinstance(node, (ast.For, ast.comprehension))]
            heads += [call.args[0] for call in calls_of(tree, "list", "tuple", "dict", "sorted") if call.args]
            heads += [node.comparators[0] for node in ast.walk(tree) if isinstance(node, ast.Compare)]
            for call in calls_of(tree, "range", "zip", "enumerate", "reversed"):
                self.assertIn(call, heads, ast.unparse(call))

    def test_sets(self):
        for tree in self.trees.values():
            places = [call.args[0] for call in calls_of(tree, "sorted", "len")]
            places += [node.comparators[0] for node in ast.walk(tree) if isinstance(node, ast.Compare)]
            written = [node for node in ast.walk(tree) if isinstance(node, (ast.Set, ast.SetComp))]
            for node in written + calls_of(tree, "set"):
                self.assertIn(node, places, ast.unparse(node))
            self.assertEqual(calls_of(tree, "frozenset", "iter", "next"), [])

    def test_builtins_take_lists(self):
        for tree in self.trees.values():
            for node in ast.walk(tree):
                self.assertNotIsInstance(node, ast.GeneratorExp)
                self.assertFalse(isinstance(node, ast.Attribute) and node.attr == "sort")

    def test_names_of_builtins_imports_and_classes_mean_nothing_else(self):
        for tree in self.trees.values():
            taken = {node.name for node in classes(tree)}
            taken |= {alias.name for node in tree.body if isinstance(node, ast.ImportFrom) for alias in node.names}
            stored = [node.id for node in ast.walk(tree) if isinstance(node, ast.Name) and isinstance(node.ctx, ast.Store)]
            stored += [node.arg for node in ast.walk(tree) if isinstance(node, ast.arg)]
            defined = [node.name for node in tree.body if isinstance(node, (ast.FunctionDef, ast.ClassDef))]
            for name in stored:
                self.assertNotIn(name, taken)
            for name in stored + defined:
                self.assertNotIn(name, dir(builtins))

    def test_imports_form_no_circle(self):
        wanted = {name: [node.module.split(".")[1] for node in tree.body if isinstance(node, ast.ImportFrom)]
                  for name, tree in self.trees.items()}
        done = []
        while len(done) < len(wanted):
            ready = [name for name in wanted if name not in done and all(other in done for other in wanted[name])]
            self.assertTrue(ready, wanted)
            done += ready

    def test_returns_of_double_underscore_methods(self):
        for node in self.methods:
            found = [one.value for one in ast.walk(node) if isinstance(one, ast.Return)]
            if node.name == "__len__":
                for value in found:
                    self.assertRegex(ast.unparse(value), r"^len\(.*\)$")
            if node.name in ("__str__", "__repr__"):
                for value in found:
                    self.assertIsInstance(value, ast.JoinedStr)
            if node.name in ("__len__", "__str__", "__repr__"):
                self.assertIsInstance(node.body[-1], ast.Return)
            if node.name == "__init__":
                self.assertEqual(found, [])
            if node.name in ("__and__", "__or__", "__eq__", "__contains__"):
                self.assertEqual(len(node.args.args), 2)

    def test_no_errors_of_pythons_own_are_caught(self):
        own = {node.name for node in classes(self.trees["errors"])}
        for tree in self.trees.values():
            for node in ast.walk(tree):
                if isinstance(node, ast.ExceptHandler):
                    caught = node.type.elts if isinstance(node.type, ast.Tuple) else [node.type]
                    self.assertLessEqual({ast.unparse(one) for one in caught}, own)

    def test_no_method_is_read_off_a_class(self):
        """L5: else no error could have an attribute with the name of a property, as `limit` is one."""
        plain = {node.name for node in self.methods if not decorators(node)}
        for tree in self.trees.values():
            for node in ast.walk(tree):
                if isinstance(node, ast.Attribute) and isinstance(node.value, ast.Name):
                    of_class = node.value.id in {one.name for one in self.classes}
                    self.assertFalse(of_class and node.attr in plain, ast.unparse(node))

    def test_super_calls_a_method(self):
        for tree in self.trees.values():
            called = [node.func.value for node in ast.walk(tree)
                      if isinstance(node, ast.Call) and isinstance(node.func, ast.Attribute)]
            for call in calls_of(tree, "super"):
                self.assertEqual([call.args, call.keywords], [[], []])
                self.assertIn(call, called)

    def test_properties_with_a_setter_have_it_in_each_class(self):
        for one in self.classes:
            names = [node.name for node in one.body if isinstance(node, ast.FunctionDef)
                     and not any(word.endswith(".setter") for word in decorators(node))]
            self.assertEqual(len(names), len(set(names)), one.name)
        setters = {node.name for node in self.methods if any(word.endswith(".setter") for word in decorators(node))}
        for name in setters:
            owners = [one.name for one in self.classes for node in one.body
                      if isinstance(node, ast.FunctionDef) and node.name == name and decorators(node) == ["property"]]
            self.assertEqual(len(owners), 1)

    def test_keywords_of_builtins(self):
        allowed = {"sorted": {"key", "reverse"}, "min": {"key", "default"}, "max": {"key", "default"},
                   "sum": {"start"}, "enumerate": {"start"}, "zip": {"strict"}}
        for tree in self.trees.values():
            for call in calls_of(tree, *BUILTINS):
                self.assertLessEqual({word.arg for word in call.keywords}, allowed.get(call.func.id, set()))

    def test_what_stands_behind_a_star(self):
        simple = (ast.Name, ast.Attribute, ast.Constant, ast.List, ast.Tuple)
        for tree in self.trees.values():
            for node in ast.walk(tree):
                if isinstance(node, ast.Call):
                    starred = [one.value for one in node.args if isinstance(one, ast.Starred)]
                    starred += [one.value for one in node.keywords if one.arg is None]
                    for value in starred:
                        self.assertIsInstance(value, simple, ast.unparse(node))

    def test_formats(self):
        for tree in self.trees.values():
            for node in ast.walk(tree):
                if isinstance(node, ast.FormattedValue) and node.format_spec is not None:
                    form = ast.unparse(node.format_spec).strip("f'\"")
                    self.assertRegex(form, r"^(.?[<>=^])?[+ -]?#?0?[0-9]{0,2}[,_]?(\.[0-9]{1,2})?[dsxXob]?$")

    def test_handlers_name_their_error_once(self):
        for tree in self.trees.values():
            for function in functions(tree):
                names = [node.name for node in ast.walk(function) if isinstance(node, ast.ExceptHandler) and node.name]
                stored = [node.id for node in ast.walk(function)
                          if isinstance(node, ast.Name) and isinstance(node.ctx, ast.Store)]
                self.assertEqual(len(names), len(set(names)))
                self.assertEqual(set(names) & set(stored), set())

    def test_strings_at_module_level_and_escapes(self):
        for tree in self.trees.values():
            for node in ast.walk(tree):
                if isinstance(node, ast.Constant) and isinstance(node.value, str):
                    self.assertNotRegex(node.value, r"\._{1,2}$|^__.*__$")

    def test_powers_have_literal_exponents(self):
        for tree in self.trees.values():
            for node in ast.walk(tree):
                if isinstance(node, ast.BinOp) and isinstance(node.op, ast.Pow):
                    self.assertIsInstance(node.right, ast.Constant)


if __name__ == "__main__":
    unittest.main()
