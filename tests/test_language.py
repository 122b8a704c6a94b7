"""The package keeps to the small part of Python that it is written in, as far as a look at its files can tell."""

import ast
import builtins
import pathlib
import re
import unittest

PACKAGE = pathlib.Path(__file__).resolve().parent.parent / "treesay"

STATEMENTS = (
    ast.Assign, ast.AugAssign, ast.If, ast.While, ast.For, ast.Return, ast.Break, ast.Continue, ast.Pass, ast.Raise,
    ast.Try, ast.FunctionDef, ast.ClassDef, ast.ImportFrom, ast.Expr,
)
EXPRESSIONS = (
    ast.Constant, ast.List, ast.Tuple, ast.Dict, ast.BinOp, ast.UnaryOp, ast.Compare, ast.BoolOp, ast.IfExp, ast.Call,
    ast.Attribute, ast.Subscript, ast.Slice, ast.ListComp, ast.JoinedStr, ast.FormattedValue, ast.Name, ast.Lambda,
)
BUILTINS = (
    "len range enumerate zip min max sum abs sorted reversed int str bool list tuple dict set frozenset isinstance ord "
    "repr any all divmod Exception ValueError TypeError KeyError IndexError LookupError ZeroDivisionError "
    "ArithmeticError OverflowError RuntimeError NotImplementedError AttributeError StopIteration"
).split()
METHODS = (
    "append clear copy count endswith extend find get index insert isalnum isalpha isdigit islower isspace isupper "
    "items join keys ljust lower lstrip partition pop remove replace reverse rfind rjust rpartition rsplit rstrip "
    "setdefault split splitlines startswith strip update upper values zfill bit_length"
).split()
DUNDERS = ("__init__", "__eq__", "__repr__", "__str__", "__len__")
NO_WORDS = (
    "type typing typing_extensions enum Enum IntEnum StrEnum Flag IntFlag Generic Protocol ABC ABCMeta namedtuple "
    "NamedTuple TypedDict TYPE_CHECKING abstractmethod"
).split()
NO_NAMES = (
    "register mro elements open input version_info with_traceback add_note attrgetter breakpoint builtins compile "
    "copyright credits delattr dir eval exec exit gc getattr globals hasattr help id importlib license locals "
    "methodcaller os quit setattr super vars sys __name__ chr print format format_map"
).split()


def package_files():
    return sorted(path for path in PACKAGE.rglob("*") if path.is_file() and "__pycache__" not in path.parts)


def trees():
    return [(path, ast.parse(path.read_text(encoding="ascii"))) for path in package_files()]


def nodes_of(kind):
    return [(path, node) for path, tree in trees() for node in ast.walk(tree) if isinstance(node, kind)]


class LanguageTest(unittest.TestCase):
    def none_of(self, found):
        told = [f"{path.name}:{getattr(node, 'lineno', 0)}" for path, node in found]
        self.assertEqual(told, [])

    def test_files(self):
        self.assertTrue((PACKAGE / "__init__.py").is_file())
        for path in package_files():
            self.assertRegex(path.name, r"\A(__init__|[a-z][a-z0-9_]*)\.py\Z")

    def test_signs_and_size(self):
        for path in package_files():
            text = path.read_bytes().decode("ascii")
            self.assertRegex(text, r"\A[\n -~]*\Z")
            self.assertLessEqual(len(text.splitlines()), 400, path.name)
            for line in text.splitlines():
                self.assertLessEqual(len(line), 120, path.name)
            for word in re.findall(r"\w+", text):
                self.assertNotIn(word, NO_WORDS, path.name)
                self.assertNotRegex(word, "dataclass|overload|contextmanager")

    def test_statements_and_expressions(self):
        kinds = (ast.stmt, ast.expr)
        self.none_of([(path, node) for path, node in nodes_of(kinds) if not isinstance(node, STATEMENTS + EXPRESSIONS)])

    def test_texts_by_themselves_only_at_the_top(self):
        alone = []
        for path, tree in trees():
            self.assertTrue(ast.get_docstring(tree), path.name)
            for node in ast.walk(tree):
                if isinstance(node, ast.Expr) and node is not tree.body[0] and not isinstance(node.value, ast.Call):
                    alone.append((path, node))
        self.none_of(alone)

    def test_imports(self):
        for path, node in nodes_of(ast.ImportFrom):
            self.assertEqual(node.level, 0, path.name)
            self.assertRegex(node.module, r"\Atreesay\.[a-z_]+\Z")
            self.assertTrue((PACKAGE / (node.module.split(".")[1] + ".py")).is_file(), node.module)
            self.assertNotIn("*", [name.name for name in node.names])

    def test_functions(self):
        for path, node in nodes_of(ast.FunctionDef):
            self.assertLessEqual(node.end_lineno - node.lineno + 1, 40, node.name)
            self.assertEqual(node.decorator_list, [], node.name)
            given = node.args
            self.assertEqual((given.vararg, given.kwarg, given.kwonlyargs, given.posonlyargs), (None, None, [], []))
            self.assertTrue(node.name in DUNDERS or not node.name.startswith("_"), node.name)

    def test_classes(self):
        for path, node in nodes_of(ast.ClassDef):
            self.assertLessEqual(len(node.bases), 1, node.name)
            self.assertEqual((node.decorator_list, node.keywords), ([], []), node.name)
            for inner in node.body:
                self.assertIsInstance(inner, (ast.FunctionDef, ast.Pass), node.name)

    def test_names(self):
        for path, node in nodes_of((ast.Name, ast.arg, ast.Attribute)):
            name = getattr(node, "id", None) or getattr(node, "arg", None) or node.attr
            self.assertNotIn(name, NO_NAMES, path.name)
            self.assertTrue(name in DUNDERS or re.fullmatch("[A-Za-z][A-Za-z0-9_]*", name), name)
            own = isinstance(node, ast.arg) or isinstance(node, ast.Name) and isinstance(node.ctx, ast.Store)
            if own:
                self.assertFalse(hasattr(builtins, name), name)
            elif isinstance(node, ast.Name) and hasattr(builtins, name):
                self.assertIn(name, BUILTINS)

    def test_methods(self):
        own = [node.name for path, node in nodes_of(ast.FunctionDef)]
        for path, node in nodes_of(ast.Call):
            if isinstance(node.func, ast.Attribute):
                self.assertIn(node.func.attr, METHODS + own, path.name)

    def test_no_name_is_a_method_and_a_value(self):
        methods = []
        for path, node in nodes_of(ast.ClassDef):
            methods.extend(inner.name for inner in node.body if isinstance(inner, ast.FunctionDef))
        for path, node in nodes_of(ast.Attribute):
            if isinstance(node.ctx, ast.Store):
                self.assertNotIn(node.attr, methods, path.name)

    def test_is_stands_beside_none_and_truths_alone(self):
        for path, node in nodes_of(ast.Compare):
            for sign, right in zip(node.ops, node.comparators):
                if isinstance(sign, (ast.Is, ast.IsNot)):
                    self.assertIsInstance(right, ast.Constant, path.name)
                    self.assertTrue(right.value is None or isinstance(right.value, bool), path.name)

    def test_operators_and_signs_in_texts(self):
        self.none_of(nodes_of((ast.Div, ast.MatMult)))
        for path, node in nodes_of(ast.Constant):
            self.assertFalse(isinstance(node.value, (float, complex, bytes)), path.name)
            if isinstance(node.value, str):
                self.assertNotIn("%", node.value, path.name)

    def test_one_target_one_loop_and_no_else_behind_loops(self):
        self.none_of([(path, node) for path, node in nodes_of(ast.Assign) if len(node.targets) != 1])
        self.none_of([(path, node) for path, node in nodes_of((ast.For, ast.While)) if node.orelse])
        self.none_of([(path, node) for path, node in nodes_of(ast.Try) if node.finalbody])
        for path, node in nodes_of(ast.ListComp):
            self.assertEqual(len(node.generators), 1, path.name)
            self.assertLessEqual(len(node.generators[0].ifs), 1, path.name)


if __name__ == "__main__":
    unittest.main()
