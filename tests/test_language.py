"""The package keeps to the small part of Python that LANGUAGE.md tells, as far as a walk of its code can see."""

import ast
import builtins
import pathlib
import re
import unittest

PACKAGE = pathlib.Path(__file__).resolve().parent.parent / "frameback"

NAMES = set(
    "len range enumerate zip min max sum abs sorted reversed int str bool list tuple dict set frozenset isinstance "
    "ord repr any all divmod Exception ValueError TypeError KeyError IndexError LookupError ZeroDivisionError "
    "ArithmeticError OverflowError RuntimeError NotImplementedError AttributeError StopIteration".split()
)
METHODS = set(
    "append clear copy count endswith extend find get index insert isalnum isalpha isdigit islower isspace isupper "
    "items join keys ljust lower lstrip partition pop remove replace reverse rfind rjust rpartition rsplit rstrip "
    "setdefault split splitlines startswith strip update upper values zfill bit_length".split()
)
DUNDERS = {"__init__", "__eq__", "__repr__", "__str__", "__len__"}
FORBIDDEN_WORDS = re.compile(
    r"\b(type|typing|typing_extensions|enum|Enum|IntEnum|StrEnum|Flag|IntFlag|Generic|Protocol|ABC|ABCMeta|"
    r"namedtuple|NamedTuple|TypedDict|TYPE_CHECKING|abstractmethod)\b|dataclass|overload|contextmanager"
)
NODES = (
    ast.Module, ast.FunctionDef, ast.ClassDef, ast.Lambda, ast.arguments, ast.arg, ast.ImportFrom, ast.alias,
    ast.Assign, ast.AugAssign, ast.If, ast.While, ast.For, ast.Return, ast.Break, ast.Continue, ast.Pass,
    ast.Raise, ast.Try, ast.ExceptHandler, ast.Expr, ast.Constant, ast.List, ast.Tuple, ast.Dict, ast.Set,
    ast.BinOp, ast.UnaryOp, ast.BoolOp, ast.Compare, ast.IfExp, ast.Call, ast.keyword, ast.Attribute,
    ast.Subscript, ast.Slice, ast.ListComp, ast.comprehension, ast.JoinedStr, ast.FormattedValue, ast.Name,
    ast.operator, ast.unaryop, ast.boolop, ast.cmpop, ast.expr_context,
)


def sources():
    return sorted(path for path in PACKAGE.rglob("*") if "__pycache__" not in path.parts and path.is_file())


def parsed():
    return [(path, ast.parse(path.read_text(encoding="ascii"))) for path in sources()]


def nodes(kind):
    return [(path.name, node) for path, tree in parsed() for node in ast.walk(tree) if isinstance(node, kind)]


class Files(unittest.TestCase):
    def test_only_python_files_of_plain_names(self):
        names = [path.name for path in sources()]
        self.assertIn("__init__.py", names)
        for name in names:
            self.assertRegex(name, r"^(__init__|[a-z][a-z0-9_]*)\.py$")
            self.assertFalse(name != "__init__.py" and hasattr(builtins, name[:-3]), name)

    def test_signs_sizes_and_words(self):
        for path in sources():
            data = path.read_bytes()
            self.assertTrue(all(sign == 10 or 32 <= sign <= 126 for sign in data), path.name)
            lines = data.decode("ascii").split("\n")
            self.assertLessEqual(len(lines), 400, path.name)
            for number, line in enumerate(lines, start=1):
                self.assertLessEqual(len(line), 120, (path.name, number))
                self.assertIsNone(FORBIDDEN_WORDS.search(line), (path.name, number))

    def test_functions_are_small(self):
        for name, node in nodes(ast.FunctionDef):
            self.assertLessEqual(node.end_lineno - node.lineno + 1, 40, (name, node.name))


class Forms(unittest.TestCase):
    def test_no_form_outside(self):
        for name, node in nodes(ast.AST):
            self.assertIsInstance(node, NODES, (name, getattr(node, "lineno", None)))

    def test_operators_and_values(self):
        for name, node in nodes((ast.Div, ast.MatMult)):
            self.fail(name)
        for name, node in nodes(ast.Constant):
            self.assertIsInstance(node.value, (int, str, type(None)), (name, node.lineno))
        for name, node in nodes(ast.BinOp):
            if isinstance(node.op, ast.Pow):
                self.assertIsInstance(node.right, ast.Constant, (name, node.lineno))

    def test_functions_and_classes_are_plain(self):
        for name, node in nodes((ast.FunctionDef, ast.ClassDef)):
            self.assertEqual(node.decorator_list, [], (name, node.name))
        for name, node in nodes(ast.ClassDef):
            self.assertLessEqual(len(node.bases), 1)
            methods = [part for part in node.body if isinstance(part, ast.FunctionDef)]
            rest = [part for part in node.body if not isinstance(part, (ast.FunctionDef, ast.Expr, ast.Pass))]
            self.assertEqual(rest, [], (name, node.name))
            self.assertEqual(len({method.name for method in methods}), len(methods))
        for name, node in nodes(ast.arguments):
            self.assertFalse(node.vararg or node.kwarg or node.kwonlyargs or node.posonlyargs, name)

    def test_one_target_and_no_else_behind_a_loop(self):
        for name, node in nodes(ast.Assign):
            self.assertEqual(len(node.targets), 1, (name, node.lineno))
        for name, node in nodes((ast.For, ast.While)):
            self.assertEqual(node.orelse, [], (name, node.lineno))
        for name, node in nodes(ast.Try):
            self.assertEqual(node.finalbody, [], (name, node.lineno))
        for name, node in nodes(ast.ListComp):
            self.assertEqual(len(node.generators), 1, (name, node.lineno))
            self.assertLessEqual(len(node.generators[0].ifs), 1, (name, node.lineno))

    def test_is_stands_beside_none_and_truths_alone(self):
        for name, node in nodes(ast.Compare):
            for operator, right in zip(node.ops, node.comparators):
                if isinstance(operator, (ast.Is, ast.IsNot)):
                    self.assertIsInstance(right, ast.Constant, (name, node.lineno))


class Names(unittest.TestCase):
    def test_imports_are_the_packages_own_and_never_in_a_ring(self):
        drawn = {path.stem: set() for path in sources()}
        for path, tree in parsed():
            for node in ast.walk(tree):
                if isinstance(node, ast.ImportFrom):
                    self.assertEqual(node.level, 0)
                    self.assertRegex(node.module, r"^frameback\.")
                    drawn[path.stem].add(node.module.split(".")[1])
                    defined = self.defined(node.module.split(".")[1])
                    self.assertTrue({alias.name for alias in node.names} <= defined, (path.name, node.lineno))
        while drawn:
            free = [name for name in drawn if not drawn[name] & set(drawn)]
            self.assertNotEqual(free, [], drawn)
            for name in free:
                drawn.pop(name)

    def defined(self, module):
        tree = ast.parse((PACKAGE / f"{module}.py").read_text(encoding="ascii"))
        names = {node.name for node in tree.body if isinstance(node, (ast.FunctionDef, ast.ClassDef))}
        return names | {node.targets[0].id for node in tree.body if isinstance(node, ast.Assign)}

    def test_pythons_own_names(self):
        for name, node in nodes(ast.Name):
            self.assertFalse(node.id.startswith("_"), (name, node.lineno))
            if hasattr(builtins, node.id):
                self.assertIn(node.id, NAMES, (name, node.lineno))
                self.assertIsInstance(node.ctx, ast.Load, (name, node.lineno))
        for name, node in nodes(ast.arg):
            self.assertFalse(hasattr(builtins, node.arg) or node.arg.startswith("_"), (name, node.lineno))

    def test_methods_are_own_or_listed_and_never_values_too(self):
        methods = {part.name for name, node in nodes(ast.ClassDef) for part in node.body
                   if isinstance(part, ast.FunctionDef)}
        values = {node.attr for name, node in nodes(ast.Attribute) if isinstance(node.ctx, ast.Store)}
        self.assertEqual(methods & values, set())
        for method in methods:
            self.assertTrue(method in DUNDERS or not method.startswith("_"), method)
        for name, node in nodes(ast.Attribute):
            self.assertIn(node.attr, METHODS | DUNDERS | methods | values, (name, node.lineno))

    def test_no_local_is_called_like_a_class_or_an_import(self):
        for path, tree in parsed():
            taken = {node.name for node in tree.body if isinstance(node, ast.ClassDef)}
            for node in tree.body:
                if isinstance(node, ast.ImportFrom):
                    taken |= {alias.asname or alias.name for alias in node.names}
            for node in ast.walk(tree):
                if isinstance(node, ast.arg):
                    self.assertNotIn(node.arg, taken, (path.name, node.lineno))
                if isinstance(node, ast.Name) and isinstance(node.ctx, ast.Store):
                    self.assertNotIn(node.id, taken, (path.name, node.lineno))


if __name__ == "__main__":
    unittest.main()
