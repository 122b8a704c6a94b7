"""The package keeps to the small part of Python that it is written in, as far as a look at its files can tell."""

import ast
import builtins
import pathlib
import re
import unittest

PACKAGE = pathlib.Path(__file__).resolve().parent.parent / "treesay"

STATEMENTS = (
    ast.Assign, ast.AugAssign, ast.If, ast.While, ast.For, ast.Return, ast.Break, ast.Continue, ast.Pass, ast.Raise,
    ast.Try, ast.FunctionDef, ast.ClassDef, ast.ImportFrom, ast.Expr,
)
EXPRESSIONS = (
    ast.Constant, ast.List, ast.Tuple, ast.Dict, ast.BinOp, ast.UnaryOp, ast.Compare, ast.BoolOp, ast.IfExp, ast.Call,
    ast.Attribute, ast.Subscript, ast.Slice, ast.ListComp, ast.JoinedStr, ast.FormattedValue, ast.Name, ast.Lambda,
)
BUILTINS = (
    "len range enumerate zip min max sum abs sorted reversed int str bool list tuple dict set frozenset isinstance ord "
    "repr any all divmod Exception ValueError TypeError KeyError IndexError LookupError ZeroDivisionError "
    "ArithmeticError OverflowError RuntimeError NotImplementedError AttributeError StopIteration"
).split()
METHODS = (
    "append clear copy count endswith extend find get index insert isalnum isalpha isdigit islower isspace isupper "
    "items join keys ljust lower lstrip partition pop remove replace reverse rfind rjust rpartition rsplit rstrip "
    "setdefault split splitlines startswith strip update upper values zfill bit_length"
).split()
DUNDERS = ("__init__", "__eq__", "__repr__", "__str__", "__len__")
NO_WORDS = (
    "type typing typing_extensions enum Enum IntEnum StrEnum Flag IntFlag Generic Protocol ABC ABCMeta namedtuple "
    "NamedTuple TypedDict TYPE_CHECKING abstractmethod"
).split()
NO_NAMES = (
    "register mro elements open input version_info with_traceback add_note attrgetter breakpoint builtins compile "
    "copyright credits delattr dir eval exec exit gc getattr globals hasattr help id importlib license locals "
    "methodcaller os quit setattr super vars sys __name__ chr print format format_map"
).split()


def package_files():
    return sorted(path for path in PACKAGE.rglob("*") if path.is_file() and "__pycache__" not in path.parts)


def trees():
    return [(path, ast.parse(path.read_text(encoding="ascii"))) for path in package_files()]


def called(node):
    """The name of Python's own or of a file that is called here, or of a method with a dot ahead."""
    if isinstance(node, ast.Call) and isinstance(node.func, ast.Name):
        return node.func.id
    if isinstance(node, ast.Call) and isinstance(node.func, ast.Attribute):
        return "." + node.func.attr
    return None


def with_above():
    """Each node with the one above it."""
    return [(path, above, node) for path, tree in trees() for above in ast.walk(tree)
            for node in ast.iter_child_nodes(above)]


def own_names(node):
    """The parameters and locals of a def or lambda."""
    told = [inner.arg for inner in ast.walk(node) if isinstance(inner, ast.arg)]
    names = [inner for inner in ast.walk(node) if isinstance(inner, ast.Name)]
    return told + [inner.id for inner in names if isinstance(inner.ctx, ast.Store)]


def top_names(tree):
    """The names that a file's top defines itself."""
    told = [node.name for node in tree.body if isinstance(node, (ast.FunctionDef, ast.ClassDef))]
    for node in tree.body:
        if isinstance(node, ast.Assign):
            told.extend(target.id for target in node.targets)
    return told


def imports_of(tree):
    return [(node.module.split(".")[1], name.name) for node in tree.body if isinstance(node, ast.ImportFrom)
            for name in node.names]


def only_reads(above, node):
    """Whether what stands around a list or dict of a file's top reads it on the spot."""
    if isinstance(above, ast.Attribute):
        return above.attr in "get items keys values index count".split()
    if isinstance(above, ast.Subscript):
        return above.value is node and isinstance(above.ctx, ast.Load)
    if isinstance(above, (ast.For, ast.comprehension)):
        return above.iter is node
    return isinstance(above, ast.Compare) or called(above) in "len list tuple dict sorted min max sum any all".split()


def nodes_of(kind):
    return [(path, node) for path, tree in trees() for node in ast.walk(tree) if isinstance(node, kind)]


class LanguageTest(unittest.TestCase):
    def none_of(self, found):
        told = [f"{path.name}:{getattr(node, 'lineno', 0)}" for path, node in found]
        self.assertEqual(told, [])

    def test_files(self):
        self.assertTrue((PACKAGE / "__init__.py").is_file())
        for path in package_files():
            self.assertRegex(path.name, r"\A(__init__|[a-z][a-z0-9_]*)\.py\Z")

    def test_signs_and_size(self):
        for path in package_files():
            text = path.read_bytes().decode("ascii")
            self.assertRegex(text, r"\A[\n -~]*\Z")
            self.assertLessEqual(len(text.splitlines()), 400, path.name)
            for line in text.splitlines():
                self.assertLessEqual(len(line), 120, path.name)
            for word in re.findall(r"\w+", text):
                self.assertNotIn(word, NO_WORDS, path.name)
                self.assertNotRegex(word, "dataclass|overload|contextmanager")

    def test_statements_and_expressions(self):
        kinds = (ast.stmt, ast.expr)
        self.none_of([(path, node) for path, node in nodes_of(kinds) if not isinstance(node, STATEMENTS + EXPRESSIONS)])

    def test_texts_by_themselves_only_at_the_top(self):
        alone = []
        for path, tree in trees():
            self.assertTrue(ast.get_docstring(tree), path.name)
            for node in ast.walk(tree):
                if isinstance(node, ast.Expr) and node is not tree.body[0] and not isinstance(node.value, ast.Call):
                    alone.append((path, node))
        self.none_of(alone)

    def test_imports(self):
        for path, node in nodes_of(ast.ImportFrom):
            self.assertEqual(node.level, 0, path.name)
            self.assertRegex(node.module, r"\Atreesay\.[a-z_]+\Z")
            self.assertTrue((PACKAGE / (node.module.split(".")[1] + ".py")).is_file(), node.module)
            self.assertNotIn("*", [name.name for name in node.names])

    def test_imports_come_from_the_file_that_defines_the_name_and_are_used(self):
        defined = {path.stem: top_names(tree) for path, tree in trees()}
        for path, tree in trees():
            used = [node.id for node in ast.walk(tree) if isinstance(node, ast.Name)]
            for module, name in imports_of(tree):
                self.assertIn(name, defined[module], path.name)
                self.assertIn(name, used, path.name)

    def test_no_two_files_draw_from_one_another(self):
        draws = {path.stem: {module for module, name in imports_of(tree)} for path, tree in trees()}
        for step in draws:
            draws = {one: set(others).union(*[draws[other] for other in others]) for one, others in draws.items()}
        for one, others in draws.items():
            self.assertNotIn(one, others)

    def test_each_name_once(self):
        for path, tree in trees():
            taken = [name for module, name in imports_of(tree)]
            told = top_names(tree) + taken
            self.assertEqual(sorted(told), sorted(set(told)), path.name)
            taken.extend(node.name for node in tree.body if isinstance(node, ast.ClassDef))
            for node in ast.walk(tree):
                if isinstance(node, (ast.FunctionDef, ast.Lambda)):
                    self.assertEqual(set(own_names(node)) & set(taken), set(), path.name)

    def test_lists_and_dicts_of_the_top_are_only_read(self):
        for path, tree in trees():
            kept = [node.targets[0].id for node in tree.body
                    if isinstance(node, ast.Assign) and isinstance(node.value, (ast.List, ast.Dict))]
            for above in ast.walk(tree):
                for node in ast.iter_child_nodes(above):
                    if isinstance(node, ast.Name) and isinstance(node.ctx, ast.Load) and node.id in kept:
                        self.assertTrue(only_reads(above, node), f"{path.name}:{node.lineno}")

    def test_walked_at_once(self):
        takers = "list tuple dict sorted sum any all enumerate zip min max .join".split()
        for path, above, node in with_above():
            if called(node) in "zip enumerate reversed range .items .keys .values".split():
                walked = isinstance(above, (ast.For, ast.comprehension)) and above.iter is node
                taken = called(above) in takers and above.args[0] is node
                self.assertTrue(walked or taken or called(above) == "zip", f"{path.name}:{node.lineno}")

    def test_sets_are_neither_kept_nor_walked(self):
        self.none_of([(path, node) for path, node in nodes_of((ast.Set, ast.SetComp))])
        for path, above, node in with_above():
            if called(node) in ("set", "frozenset"):
                right = isinstance(above, (ast.Compare, ast.BinOp)) or called(above) in ("sorted", "len")
                self.assertTrue(right, f"{path.name}:{node.lineno}")
            joins = isinstance(node, ast.BinOp) and called(node.left) in ("set", "frozenset")
            if joins:
                right = isinstance(above, (ast.Compare, ast.BinOp)) or called(above) in ("sorted", "len")
                self.assertTrue(right, f"{path.name}:{node.lineno}")

    def test_keywords(self):
        allowed = {
            "sorted": ("key", "reverse"), "min": ("key", "default"), "max": ("key", "default"), "sum": ("start",),
            "enumerate": ("start",), "zip": ("strict",),
        }
        for path, node in nodes_of(ast.Call):
            name = called(node)
            if name in BUILTINS or name is not None and name[1:] in METHODS:
                for keyword in node.keywords:
                    self.assertIn(keyword.arg, allowed.get(name, ()), path.name)

    def test_errors_are_taken_by_name_and_made_on_the_spot(self):
        for path, node in nodes_of(ast.ExceptHandler):
            self.assertIsNotNone(node.type, path.name)
            names = [inner.id for inner in ast.walk(node.type) if isinstance(inner, ast.Name)]
            self.assertEqual(set(names) & {"Exception", "TypeError"}, set(), path.name)
        for path, node in nodes_of(ast.Raise):
            self.assertIsInstance(node.exc, ast.Call, path.name)

    def test_no_annotations(self):
        for path, node in nodes_of((ast.FunctionDef, ast.arg)):
            self.assertIsNone(getattr(node, "returns", None) or getattr(node, "annotation", None), path.name)

    def test_functions(self):
        for path, node in nodes_of(ast.FunctionDef):
            self.assertLessEqual(node.end_lineno - node.lineno + 1, 40, node.name)
            self.assertEqual(node.decorator_list, [], node.name)
            given = node.args
            self.assertEqual((given.vararg, given.kwarg, given.kwonlyargs, given.posonlyargs), (None, None, [], []))
            self.assertTrue(node.name in DUNDERS or not node.name.startswith("_"), node.name)

    def test_classes(self):
        for path, node in nodes_of(ast.ClassDef):
            self.assertLessEqual(len(node.bases), 1, node.name)
            self.assertEqual((node.decorator_list, node.keywords), ([], []), node.name)
            for inner in node.body:
                self.assertIsInstance(inner, (ast.FunctionDef, ast.Pass), node.name)

    def test_names(self):
        for path, node in nodes_of((ast.Name, ast.arg, ast.Attribute)):
            name = getattr(node, "id", None) or getattr(node, "arg", None) or node.attr
            self.assertNotIn(name, NO_NAMES, path.name)
            self.assertTrue(name in DUNDERS or re.fullmatch("[A-Za-z][A-Za-z0-9_]*", name), name)
            own = isinstance(node, ast.arg) or isinstance(node, ast.Name) and isinstance(node.ctx, ast.Store)
            if own:
                self.assertFalse(hasattr(builtins, name), name)
            elif isinstance(node, ast.Name) and hasattr(builtins, name):
                self.assertIn(name, BUILTINS)

    def test_methods(self):
        own = [node.name for path, node in nodes_of(ast.FunctionDef)]
        for path, node in nodes_of(ast.Call):
            if isinstance(node.func, ast.Attribute):
                self.assertIn(node.func.attr, METHODS + own, path.name)

    def test_no_name_is_a_method_and_a_value(self):
        methods = []
        for path, node in nodes_of(ast.ClassDef):
            methods.extend(inner.name for inner in node.body if isinstance(inner, ast.FunctionDef))
        for path, node in nodes_of(ast.Attribute):
            if isinstance(node.ctx, ast.Store):
                self.assertNotIn(node.attr, methods, path.name)

    def test_is_stands_beside_none_and_truths_alone(self):
        for path, node in nodes_of(ast.Compare):
            for sign, right in zip(node.ops, node.comparators):
                if isinstance(sign, (ast.Is, ast.IsNot)):
                    self.assertIsInstance(right, ast.Constant, path.name)
                    self.assertTrue(right.value is None or isinstance(right.value, bool), path.name)

    def test_operators_and_signs_in_texts(self):
        self.none_of(nodes_of((ast.Div, ast.MatMult)))
        for path, node in nodes_of(ast.Constant):
            self.assertFalse(isinstance(node.value, (float, complex, bytes)), path.name)
            if isinstance(node.value, str):
                self.assertNotIn("%", node.value, path.name)

    def test_one_target_one_loop_and_no_else_behind_loops(self):
        self.none_of([(path, node) for path, node in nodes_of(ast.Assign) if len(node.targets) != 1])
        self.none_of([(path, node) for path, node in nodes_of((ast.For, ast.While)) if node.orelse])
        self.none_of([(path, node) for path, node in nodes_of(ast.Try) if node.finalbody])
        for path, node in nodes_of(ast.ListComp):
            self.assertEqual(len(node.generators), 1, path.name)
            self.assertLessEqual(len(node.generators[0].ifs), 1, path.name)


if __name__ == "__main__":
    unittest.main()
