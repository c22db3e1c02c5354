"""How the package uses names, classes, errors, walks and texts: more of the rules that LANGUAGE.md tells."""

import ast
import builtins
import re
import unittest

from tests.test_language import METHODS, PACKAGE, nodes, parsed, sources

NOT_USED = set(
    "register mro elements open input version_info with_traceback add_note attrgetter breakpoint builtins compile "
    "copyright credits delattr dir eval exec exit gc getattr globals hasattr help id importlib license locals "
    "methodcaller os quit setattr super type vars sys chr print format format_map".split()
)
WALKED = {"zip", "enumerate", "reversed", "range"}
WALKED_METHODS = {"items", "keys", "values"}
WALKERS = {"list", "tuple", "dict", "sorted", "sum", "any", "all", "enumerate", "zip", "min", "max"}
KEYWORDS = {
    "sorted": {"key", "reverse"}, "min": {"key", "default"}, "max": {"key", "default"},
    "sum": {"start"}, "enumerate": {"start"}, "zip": {"strict"},
}
CHANGES = {"append", "clear", "extend", "insert", "pop", "remove", "reverse", "setdefault", "update"}


def with_parents():
    """Each node with the file's name and the node around it."""
    found = []
    for path, tree in parsed():
        for around in ast.walk(tree):
            found += [(path.name, node, around) for node in ast.iter_child_nodes(around)]
    return found


def called_name(node):
    if isinstance(node, ast.Call) and isinstance(node.func, ast.Name):
        return node.func.id
    return None


def called_method(node):
    if isinstance(node, ast.Call) and isinstance(node.func, ast.Attribute):
        return node.func.attr
    return None


def own_classes():
    return {node.name for name, node in nodes(ast.ClassDef)}


def is_plain(node, functions):
    if isinstance(node, (ast.List, ast.Tuple)):
        return all(is_plain(part, functions) for part in node.elts)
    if isinstance(node, ast.Dict):
        return all(is_plain(part, functions) for part in node.keys + node.values)
    if isinstance(node, ast.Name):
        return node.id in functions
    if isinstance(node, ast.UnaryOp):
        return isinstance(node.operand, ast.Constant)
    return isinstance(node, ast.Constant)


class Tops(unittest.TestCase):
    def test_what_stands_at_a_files_top(self):
        for path, tree in parsed():
            bound, functions = [], set()
            self.assertIsNotNone(ast.get_docstring(tree), path.name)
            for node in tree.body[1:]:
                self.assertIsInstance(node, (ast.ImportFrom, ast.FunctionDef, ast.ClassDef, ast.Assign), path.name)
                if isinstance(node, ast.ImportFrom):
                    bound += [alias.asname or alias.name for alias in node.names]
                elif isinstance(node, ast.Assign):
                    bound.append(node.targets[0].id)
                    self.assertTrue(is_plain(node.value, functions), (path.name, node.lineno))
                else:
                    bound.append(node.name)
                    functions |= {node.name} if isinstance(node, ast.FunctionDef) else set()
            self.assertEqual(len(bound), len(set(bound)), path.name)

    def test_the_lists_and_dicts_of_a_files_top_are_only_read(self):
        for path, tree in parsed():
            kept = {node.targets[0].id for node in tree.body
                    if isinstance(node, ast.Assign) and isinstance(node.value, (ast.List, ast.Dict))}
            for around in ast.walk(tree):
                for node in ast.iter_child_nodes(around):
                    if isinstance(node, ast.Name) and node.id in kept and isinstance(node.ctx, ast.Load):
                        self.assertTrue(self.reads(around, node), (path.name, node.lineno))

    def reads(self, around, node):
        if isinstance(around, ast.Subscript):
            return around.value is node and isinstance(around.ctx, ast.Load)
        if isinstance(around, ast.Attribute):
            return around.attr in ("get", "items", "keys", "values")
        if isinstance(around, ast.Call):
            return called_name(around) in ("len", "list", "tuple", "dict", "sorted")
        return isinstance(around, (ast.Compare, ast.For, ast.comprehension))

    def test_no_file_binds_the_name_of_a_file(self):
        tree = ast.parse((PACKAGE / "__init__.py").read_text(encoding="ascii"))
        self.assertEqual([node for node in tree.body if not isinstance(node, ast.Expr)], [])


class Uses(unittest.TestCase):
    def test_names_that_are_not_used(self):
        for name, node in nodes(ast.Name):
            self.assertNotIn(node.id, NOT_USED, (name, node.lineno))
        for name, node in nodes(ast.FunctionDef):
            self.assertNotIn(node.name, NOT_USED, (name, node.lineno))
            self.assertTrue(node.name == "__init__" or not node.name.startswith("_"), (name, node.lineno))

    def test_locals_and_parameters_are_not_called_like_pythons_own(self):
        for name, node in nodes(ast.Name):
            if isinstance(node.ctx, ast.Store):
                self.assertFalse(hasattr(builtins, node.id), (name, node.lineno))

    def test_classes_are_called_or_stand_by_isinstance_except_and_raise(self):
        classes = own_classes()
        for name, node, around in with_parents():
            if isinstance(node, ast.Name) and node.id in classes:
                fine = isinstance(around, (ast.ClassDef, ast.ExceptHandler, ast.Raise))
                fine = fine or isinstance(around, ast.Attribute) and around.attr == "__init__"
                fine = fine or isinstance(around, ast.Call) and around.func is node
                fine = fine or called_name(around) == "isinstance" and around.args[1] is node
                self.assertTrue(fine, (name, node.lineno, node.id))

    def test_errors_are_the_programs_own(self):
        classes = own_classes()
        for name, node in nodes(ast.ExceptHandler):
            self.assertIsInstance(node.type, ast.Name, (name, node.lineno))
            self.assertIn(node.type.id, classes, (name, node.lineno))
        for name, node in nodes(ast.Raise):
            self.assertIn(called_name(node.exc), classes, (name, node.lineno))

    def test_keywords(self):
        for name, node in nodes(ast.Call):
            known = KEYWORDS.get(called_name(node), set())
            self.assertTrue({word.arg for word in node.keywords} <= known, (name, node.lineno))

    def test_methods_of_pythons_own_are_called_where_they_stand(self):
        own = {part.name for name, node in nodes(ast.ClassDef) for part in node.body
               if isinstance(part, ast.FunctionDef)}
        for name, node, around in with_parents():
            if isinstance(node, ast.Attribute) and node.attr in METHODS | own - {"__init__"}:
                self.assertTrue(isinstance(around, ast.Call) and around.func is node, (name, node.lineno))


class Walks(unittest.TestCase):
    def test_what_is_walked_is_walked_on_the_spot(self):
        for name, node, around in with_parents():
            if called_name(node) in WALKED or called_method(node) in WALKED_METHODS:
                fine = isinstance(around, (ast.For, ast.comprehension)) and around.iter is node
                fine = fine or called_name(around) in WALKERS or called_method(around) == "join"
                self.assertTrue(fine, (name, node.lineno))

    def test_what_a_loop_walks_is_not_changed_in_it(self):
        for name, loop in nodes(ast.For):
            walked = {ast.unparse(loop.iter)}
            if isinstance(loop.iter, ast.Call):
                walked |= {ast.unparse(part) for part in loop.iter.args}
                if isinstance(loop.iter.func, ast.Attribute):
                    walked.add(ast.unparse(loop.iter.func.value))
                if called_name(loop.iter) in ("list", "sorted", "tuple", "range"):
                    walked = set()
            for part in loop.body:
                for node in ast.walk(part):
                    if called_method(node) in CHANGES:
                        self.assertNotIn(ast.unparse(node.func.value), walked, (name, node.lineno))
                    if isinstance(node, ast.Subscript) and isinstance(node.ctx, ast.Store):
                        self.assertNotIn(ast.unparse(node.value), walked, (name, node.lineno))

    def test_no_sets(self):
        for name, node in nodes((ast.Set, ast.Call)):
            self.assertNotIsInstance(node, ast.Set, (name, node.lineno))
            self.assertNotIn(called_name(node), ("set", "frozenset"), (name, node.lineno))


class Texts(unittest.TestCase):
    def test_signs_and_escapes(self):
        for name, node in nodes(ast.Constant):
            if isinstance(node.value, str):
                self.assertNotIn("%", node.value, (name, node.lineno))
        for path in sources():
            for found in re.findall(r"\\(.)", path.read_text(encoding="ascii")):
                self.assertIn(found, "nt\\'\"", path.name)

    def test_braces_hold_plain_names(self):
        for name, node in nodes(ast.FormattedValue):
            self.assertIsInstance(node.value, ast.Name, (name, node.lineno))
            self.assertIsNone(node.format_spec, (name, node.lineno))

    def test_no_annotation(self):
        for name, node in nodes(ast.arg):
            self.assertIsNone(node.annotation, (name, node.lineno))
        for name, node in nodes(ast.FunctionDef):
            self.assertIsNone(node.returns, (name, node.name))


if __name__ == "__main__":
    unittest.main()
