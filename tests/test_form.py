"""Those rules of the program's form that can be looked at by reading its files."""

import ast
import pathlib
import re
import unittest

PACKAGE = pathlib.Path(__file__).resolve().parent.parent / "farquotient"
NAMES = set(
    "len range enumerate zip min max sum abs sorted reversed int str bool bytes list tuple dict set frozenset "
    "isinstance ord repr any all divmod Exception ValueError TypeError KeyError IndexError LookupError "
    "ZeroDivisionError ArithmeticError OverflowError RuntimeError NotImplementedError AttributeError "
    "StopIteration".split()
)
METHODS = set(
    "append clear copy count endswith extend find get index insert isalnum isalpha isdigit islower isspace isupper "
    "items join keys ljust lower lstrip partition pop remove replace reverse rfind rjust rpartition rsplit rstrip "
    "setdefault split splitlines startswith strip update upper values zfill bit_length add discard sort "
    "removeprefix removesuffix __init__".split()
)
WORDS = re.compile(
    r"\b(type|typing|typing_extensions|enum|Enum|IntEnum|StrEnum|Flag|IntFlag|Generic|Protocol|ABC|ABCMeta|namedtuple"
    r"|NamedTuple|TypedDict|TYPE_CHECKING|abstractmethod)\b|dataclass|overload|contextmanager"
)
OUTSIDE = (
    ast.With, ast.AsyncWith, ast.Match, ast.Global, ast.Nonlocal, ast.Yield, ast.YieldFrom, ast.Await, ast.NamedExpr,
    ast.GeneratorExp, ast.Div, ast.AsyncFunctionDef, ast.AsyncFor, ast.Import, ast.MatMult,
)


def bound_names(tree):
    """All names that a file gives a meaning, and its attributes' own names."""
    names = set()
    for node in ast.walk(tree):
        if isinstance(node, (ast.FunctionDef, ast.ClassDef)):
            names.add(node.name)
        elif isinstance(node, ast.arg):
            names.add(node.arg)
        elif isinstance(node, ast.Name) and not isinstance(node.ctx, ast.Load):
            names.add(node.id)
        elif isinstance(node, ast.alias):
            names.add(node.asname or node.name)
        elif isinstance(node, ast.ExceptHandler) and node.name:
            names.add(node.name)
    return names


class Form(unittest.TestCase):
    def setUp(self):
        self.texts = {path.name: path.read_text("utf-8") for path in sorted(PACKAGE.glob("*.py"))}
        self.trees = {name: ast.parse(text) for name, text in self.texts.items()}

    def nodes(self, kind):
        for name, tree in self.trees.items():
            for node in ast.walk(tree):
                if isinstance(node, kind):
                    yield name, node

    def test_nothing_but_its_files_lies_in_the_package(self):
        beside = [path.name for path in PACKAGE.iterdir() if path.suffix != ".py" and path.name != "__pycache__"]
        self.assertEqual(beside, [])
        self.assertIn("__init__.py", self.texts)

    def test_sizes_and_signs(self):
        for name, text in self.texts.items():
            rows = text.split("\n")
            self.assertLessEqual(len(rows), 400, name)
            self.assertLessEqual(max(len(row) for row in rows), 120, name)
            self.assertTrue(all(sign == "\n" or " " <= sign <= "~" for sign in text), name)
            self.assertIsNone(WORDS.search(text), name)
        for name, node in self.nodes(ast.FunctionDef):
            self.assertLessEqual(node.end_lineno - node.lineno + 1, 40, (name, node.name))

    def test_imports_are_the_packages_own_and_in_no_circle(self):
        drawn = {name: set() for name in self.texts}
        for name, node in self.nodes(ast.ImportFrom):
            self.assertEqual(node.level, 0, name)
            self.assertTrue(node.module.startswith("farquotient."), (name, node.module))
            drawn[name].add(node.module.split(".")[1] + ".py")
        while drawn:
            free = [name for name in drawn if not drawn[name] & set(drawn)]
            self.assertTrue(free, drawn)
            drawn = {name: drawn[name] for name in drawn if name not in free}

    def test_statements_and_expressions(self):
        for name, node in self.nodes(OUTSIDE):
            self.fail((name, node.lineno, ast.dump(node)))
        for name, node in self.nodes((ast.FunctionDef, ast.ClassDef)):
            self.assertEqual(node.decorator_list, [], name)
        for name, node in self.nodes((ast.For, ast.While)):
            self.assertEqual(node.orelse, [], (name, node.lineno))
        for name, node in self.nodes(ast.Constant):
            self.assertNotIsInstance(node.value, (float, complex), name)
        for name, node in self.nodes(ast.Pow):
            self.fail(name)

    def test_names_are_the_programs_own_or_listed(self):
        for name, tree in self.trees.items():
            bound = bound_names(tree)
            self.assertEqual(bound & NAMES, set(), name)
            for node in ast.walk(tree):
                if isinstance(node, ast.Name):
                    self.assertIn(node.id, bound | NAMES, name)

    def test_no_local_is_called_like_an_import_or_a_class(self):
        for name, tree in self.trees.items():
            drawn = {alias.name for node in tree.body if isinstance(node, ast.ImportFrom) for alias in node.names}
            drawn |= {node.name for node in tree.body if isinstance(node, ast.ClassDef)}
            for node in ast.walk(tree):
                if isinstance(node, ast.FunctionDef):
                    self.assertEqual(bound_names(ast.Module(node.args.args + node.body, [])) & drawn, set(), name)

    def test_attributes_are_the_programs_own_or_listed(self):
        own = {node.name for name, node in self.nodes(ast.FunctionDef)}
        given = {node.attr for name, node in self.nodes(ast.Attribute) if isinstance(node.ctx, ast.Store)}
        for name, node in self.nodes(ast.Attribute):
            self.assertIn(node.attr, own | given | METHODS, (name, node.lineno))

    def test_no_name_is_a_method_and_a_value(self):
        methods = {
            node.name for name, each in self.nodes(ast.ClassDef) for node in each.body if isinstance(node, ast.FunctionDef)
        }
        given = {node.attr for name, node in self.nodes(ast.Attribute) if isinstance(node.ctx, ast.Store)}
        self.assertEqual(methods & given, set())
        own = {name for kind in (str, int, list, tuple, dict, set, bytes) for name in dir(kind)}
        self.assertEqual((methods | given) & own, {"__init__"})

    def test_ranges_and_kin_are_not_kept(self):
        for name, node in self.nodes(ast.Assign):
            called = node.value.func if isinstance(node.value, ast.Call) else None
            if isinstance(called, ast.Name):
                self.assertNotIn(called.id, ("zip", "enumerate", "reversed", "range"), (name, node.lineno))


if __name__ == "__main__":
    unittest.main()
