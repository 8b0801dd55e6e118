"""Those rules of ../shared/LANGUAGE.md that a look at the package's files can tell."""

import ast
import builtins
import re
import unittest
from pathlib import Path

PACKAGE = Path(__file__).resolve().parent.parent / "latekinds"
FILES = sorted(PACKAGE.rglob("*.py"))

BUILTINS = set(
    "len range enumerate zip min max sum abs sorted reversed int str bool list tuple dict set isinstance ord repr any "
    "all divmod ValueError KeyError IndexError LookupError ZeroDivisionError NotImplemented True False None".split()
)
BARRED_NAMES = set(
    "register mro elements open input law version_info with_traceback add_note attrgetter breakpoint compile copyright "
    "credits delattr dir eval exec exit gc getattr globals hasattr help id importlib license locals methodcaller os "
    "quit setattr type vars sys builtins".split()
)
BARRED_WORDS = (
    r"\b(typing|typing_extensions|enum|Enum|IntEnum|StrEnum|Flag|IntFlag|Generic|Protocol|ABC|ABCMeta|namedtuple"
    r"|NamedTuple|TypedDict|TYPE_CHECKING|abstractmethod|type)\b|dataclass|overload|contextmanager|_wall"
)
METHODS = set(
    "append clear copy count endswith extend find get index insert isalnum isalpha isdigit islower isspace isupper "
    "items join keys ljust lower lstrip partition pop remove replace reverse rfind rjust rpartition rsplit rstrip "
    "setdefault split splitlines startswith strip update upper values zfill bit_length add discard".split()
)
DUNDERS = {"__init__", "__eq__"}
BUILTIN_NAMES = {name for name in dir(builtins) if not name.startswith("__")}
BARRED_NODES = (
    ast.Global, ast.Nonlocal, ast.AsyncFunctionDef, ast.AsyncFor, ast.AsyncWith, ast.Await, ast.Import, ast.AnnAssign,
    ast.Div, ast.GeneratorExp, ast.Yield, ast.YieldFrom, ast.With, ast.MatMult,
)


def tree_of(path):
    return ast.parse(path.read_text())


def nodes(kind):
    """All nodes of such a kind, each with the name of its file and its line."""
    for path in FILES:
        for node in ast.walk(tree_of(path)):
            if isinstance(node, kind):
                yield f"{path.name}:{getattr(node, 'lineno', '')}", node


def code_without_comments(text):
    """The rows of a file without comments and docstrings."""
    tree = ast.parse(text)
    for node in ast.walk(tree):
        if isinstance(node, (ast.Module, ast.ClassDef, ast.FunctionDef)) and ast.get_docstring(node) is not None:
            node.body[0].value.value = ""
    return ast.unparse(tree)


class Language(unittest.TestCase):
    def test_files(self):
        self.assertTrue((PACKAGE / "__init__.py").is_file())
        for path in PACKAGE.iterdir():
            if path.name != "__pycache__":
                self.assertRegex(path.name, r"\A([a-z][a-z0-9_]*|__init__|__main__)\.py\Z")
                self.assertNotRegex(path.stem, r"\A(law_.*|test.*|site|conftest|sitecustomize|usercustomize)\Z")
                self.assertNotIn(path.stem, BUILTIN_NAMES)
        self.assertLessEqual(len(FILES), 100)

    def test_characters_and_sizes(self):
        for path in FILES:
            text = path.read_bytes().decode("ascii")
            self.assertNotRegex(text, r"[^ -~\n]", path.name)
            rows = text.split("\n")
            self.assertLessEqual(len(rows) - 1, 399, path.name)
            for at, row in enumerate(rows):
                self.assertLessEqual(len(row), 120, f"{path.name}:{at + 1}")
        for where, node in nodes(ast.FunctionDef):
            self.assertLessEqual(node.end_lineno - node.lineno + 1, 40, where)

    def test_imports(self):
        heads = {}
        for path in FILES:
            body = tree_of(path).body
            heads[path.stem] = []
            for node in body:
                if isinstance(node, ast.ImportFrom):
                    package, _, module = node.module.partition(".")
                    self.assertEqual((package, node.level), ("latekinds", 0), path.name)
                    heads[path.stem].append(module)
                    there = tree_of(PACKAGE / f"{module}.py").body
                    names = [part.name for part in there if isinstance(part, (ast.FunctionDef, ast.ClassDef))]
                    names += [part.targets[0].id for part in there if isinstance(part, ast.Assign)]
                    for alias in node.names:
                        self.assertIsNone(alias.asname, path.name)
                        self.assertIn(alias.name, names, path.name)
        while heads:
            ends = [name for name in heads if not [head for head in heads[name] if head in heads]]
            self.assertTrue(ends, f"a ring of imports among {sorted(heads)}")
            for name in ends:
                del heads[name]

    def test_module_level(self):
        for path in FILES:
            for at, node in enumerate(tree_of(path).body):
                where = f"{path.name}:{node.lineno}"
                if isinstance(node, ast.Expr):
                    self.assertTrue(at == 0 and isinstance(node.value, ast.Constant), where)
                elif isinstance(node, ast.Assign):
                    self.assertTrue(len(node.targets) == 1 and isinstance(node.targets[0], ast.Name), where)
                    self.plain_value(node.value, {part.name for part in tree_of(path).body[:at] if hasattr(part, "name")})
                else:
                    self.assertIsInstance(node, (ast.ImportFrom, ast.FunctionDef, ast.ClassDef), where)

    def plain_value(self, value, functions):
        """Integers, strings, and tuples and dicts of these and of functions that are defined above."""
        if isinstance(value, ast.Name):
            self.assertIn(value.id, functions)
        elif isinstance(value, (ast.Tuple, ast.Dict)):
            for part in value.elts if isinstance(value, ast.Tuple) else value.keys + value.values:
                self.assertNotIsInstance(part, (ast.Dict, ast.List))
                self.plain_value(part, functions)
        elif isinstance(value, ast.BinOp):
            self.assertIsInstance(value.op, ast.Pow)
            self.plain_value(value.left, functions)
            self.plain_value(value.right, functions)
        else:
            self.assertIsInstance(value, ast.Constant)

    def test_imports_and_classes_are_not_hidden(self):
        for path in FILES:
            body = tree_of(path).body
            taken = {alias.name for node in body if isinstance(node, ast.ImportFrom) for alias in node.names}
            taken |= {node.name for node in body if isinstance(node, ast.ClassDef)}
            for node in ast.walk(tree_of(path)):
                if isinstance(node, ast.arg):
                    self.assertNotIn(node.arg, taken, f"{path.name}:{node.lineno}")
                if isinstance(node, ast.Name) and isinstance(node.ctx, ast.Store):
                    self.assertNotIn(node.id, taken, f"{path.name}:{node.lineno}")

    def test_methods_and_attributes(self):
        methods, attributes = set(), set()
        for _, node in nodes(ast.ClassDef):
            methods |= {part.name for part in node.body if isinstance(part, ast.FunctionDef)}
        for where, node in nodes(ast.Attribute):
            if isinstance(node.ctx, ast.Store):
                attributes.add(node.attr)
                self.assertIsInstance(node.value, ast.Name, where)
        self.assertEqual(methods & attributes, set())
        built_in = {name for thing in ("", 0, [], {}, set(), b"") for name in dir(thing) if not name.startswith("__")}
        self.assertEqual(methods & built_in, {"copy"})
        self.assertEqual(attributes & built_in, set())
        for where, node in nodes(ast.Attribute):
            if isinstance(node.ctx, ast.Load):
                self.assertIn(node.attr, methods | attributes | METHODS, where)

    def test_nodes(self):
        for where, node in nodes(BARRED_NODES):
            self.fail(f"{where} {node}")
        for where, node in nodes(ast.Constant):
            self.assertNotIsInstance(node.value, (float, complex), where)
            if isinstance(node.value, str):
                self.assertNotIn(chr(37), node.value, where)
        for where, node in nodes((ast.FunctionDef, ast.ClassDef)):
            self.assertEqual(node.decorator_list, [], where)
        for where, node in nodes(ast.Compare):
            for sign, side in zip(node.ops, node.comparators):
                if isinstance(sign, (ast.Is, ast.IsNot)):
                    self.assertTrue(isinstance(side, ast.Constant) and side.value in (None, True, False), where)
        for where, node in nodes(ast.ExceptHandler):
            self.assertIsNotNone(node.type, where)

    def test_names(self):
        for where, node in nodes(ast.Name):
            self.assertNotIn(node.id, BARRED_NAMES, where)
            self.assertFalse(node.id.startswith("__"), where)
            if node.id in BUILTIN_NAMES:
                self.assertIn(node.id, BUILTINS, where)
                self.assertIsInstance(node.ctx, ast.Load, where)
            if node.id == "_":
                self.assertIsInstance(node.ctx, ast.Store, where)
        for where, node in nodes((ast.FunctionDef, ast.ClassDef)):
            self.assertNotIn(node.name, BARRED_NAMES, where)
            self.assertNotIn(node.name, BUILTIN_NAMES, where)
            self.assertTrue(not node.name.startswith("__") or node.name in DUNDERS, where)
        for where, node in nodes(ast.arg):
            self.assertNotIn(node.arg, BARRED_NAMES, where)
            self.assertNotIn(node.arg, BUILTIN_NAMES, where)
        for path in FILES:
            self.assertIsNone(re.search(BARRED_WORDS, code_without_comments(path.read_text())), path.name)

    def test_methods(self):
        own = {node.name for _, node in nodes(ast.FunctionDef)}
        for where, node in nodes(ast.Call):
            if isinstance(node.func, ast.Attribute):
                self.assertIn(node.func.attr, own | METHODS, where)

    def test_sets_are_not_iterated(self):
        for where, node in nodes((ast.For, ast.comprehension)):
            source = node.iter
            called = isinstance(source, ast.Call) and isinstance(source.func, ast.Name)
            self.assertFalse(isinstance(source, (ast.Set, ast.SetComp)), where)
            self.assertFalse(called and source.func.id == "set", where)


if __name__ == "__main__":
    unittest.main()
