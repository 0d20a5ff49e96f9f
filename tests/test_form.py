"""The form of the code: the rules that can be read off the files of the package."""

import ast
import builtins
import unittest
from pathlib import Path

import laytogether

FOLDER = Path(laytogether.__file__).parent
FILES = sorted(FOLDER.rglob("*.py"))

ALLOWED_BUILTINS = {
    "len", "range", "enumerate", "zip", "min", "max", "sum", "abs", "sorted", "reversed", "int", "str", "bool", "list",
    "tuple", "dict", "set", "isinstance", "ord", "repr", "any", "all", "divmod", "map", "super", "ValueError",
    "property",
}
ALLOWED_METHODS = {
    "append", "clear", "copy", "count", "endswith", "extend", "find", "get", "index", "insert", "items", "join", "keys",
    "pop", "remove", "replace", "reverse", "setdefault", "split", "startswith", "strip", "update", "values", "add",
    "discard", "__init__",
}
LIBRARY = {"heapq", "math", "itertools", "collections"}
ALLOWED_NODES = (
    ast.Module, ast.Expr, ast.Constant, ast.ImportFrom, ast.alias, ast.FunctionDef, ast.arguments, ast.arg, ast.Return,
    ast.ClassDef, ast.Assign, ast.AugAssign, ast.If, ast.While, ast.For, ast.Break, ast.Continue, ast.Pass, ast.Raise,
    ast.Name, ast.Load, ast.Store, ast.Tuple, ast.List, ast.Dict, ast.Attribute, ast.Subscript, ast.Slice, ast.Call,
    ast.keyword, ast.Starred, ast.BoolOp, ast.And, ast.Or, ast.UnaryOp, ast.Not, ast.USub, ast.BinOp, ast.Add, ast.Sub,
    ast.Mult, ast.FloorDiv, ast.Mod, ast.Pow, ast.Compare, ast.Eq, ast.NotEq, ast.Lt, ast.LtE, ast.Gt, ast.GtE, ast.In,
    ast.NotIn, ast.Is, ast.IsNot, ast.IfExp, ast.Lambda, ast.ListComp, ast.DictComp, ast.SetComp, ast.GeneratorExp,
    ast.comprehension, ast.JoinedStr, ast.FormattedValue,
)
TAKES_GENERATORS = {"list", "tuple", "dict", "sorted", "sum", "min", "max", "any", "all"}
TAKES_SETS = {"sorted", "len"}


def parsed(path):
    tree = ast.parse(path.read_text("ascii"))
    for node in ast.walk(tree):
        for child in ast.iter_child_nodes(node):
            child.parent = node
    return tree


def called(node):
    """The name of the builtin or function of which a node is an argument."""
    above = node.parent
    if isinstance(above, ast.Call) and isinstance(above.func, ast.Name) and node in above.args:
        return above.func.id
    return None


def bound_names(tree):
    """The names that functions of a file give to parameters, local variables and nested functions."""
    for node in ast.walk(tree):
        if isinstance(node, ast.arg):
            yield node.arg
        elif isinstance(node, ast.Name) and isinstance(node.ctx, ast.Store):
            yield node.id
        elif isinstance(node, ast.FunctionDef) and not isinstance(node.parent, (ast.Module, ast.ClassDef)):
            yield node.name


class Form(unittest.TestCase):

    def each(self, check):
        for path in FILES:
            with self.subTest(path.name):
                check(path, parsed(path))

    def test_folder(self):
        others = [path for path in FOLDER.rglob("*") if path.suffix != ".py" and "__pycache__" not in path.parts]
        self.assertEqual(others, [])
        self.assertTrue(all(path.stem.replace("_", "").isalnum() and path.name.islower() for path in FILES))

    def test_sizes_and_characters(self):
        def check(path, tree):
            text = path.read_text("ascii")
            self.assertTrue(all(" " <= sign <= "~" or sign == "\n" for sign in text))
            self.assertLessEqual(len(text.splitlines()), 399)
            self.assertLessEqual(max(len(line) for line in text.splitlines()), 120)
            for node in ast.walk(tree):
                if isinstance(node, ast.FunctionDef):
                    self.assertLessEqual(node.end_lineno - node.lineno + 1, 40, node.name)
        self.each(check)

    def test_parts_of_the_language(self):
        def check(path, tree):
            for node in ast.walk(tree):
                self.assertIsInstance(node, ALLOWED_NODES, getattr(node, "lineno", None))
                if isinstance(node, ast.Constant):
                    self.assertNotIsInstance(node.value, (float, complex))
                if isinstance(node, ast.FunctionDef):
                    self.assertIsNone(node.returns)
                    self.assertIn([ast.unparse(told) for told in node.decorator_list], ([], ["property"]))
                    self.assertTrue(not node.decorator_list or isinstance(node.parent, ast.ClassDef))
                if isinstance(node, ast.Pow):
                    self.assertIsInstance(node.parent.right, ast.Constant)
                if isinstance(node, ast.Starred) and isinstance(node.parent, ast.Call):
                    self.assertIsInstance(node.value, ast.Name)
        self.each(check)

    def test_imports(self):
        edges = {}

        def check(path, tree):
            for node in [node for node in ast.walk(tree) if isinstance(node, ast.ImportFrom)]:
                self.assertIs(node.parent, tree)
                self.assertEqual((node.level, [name.asname for name in node.names if name.asname]), (0, []))
                if node.module in LIBRARY:
                    continue
                self.assertTrue(node.module.startswith("laytogether."))
                edges.setdefault(path.stem, set()).add(node.module.partition(".")[2])
                home = ast.parse((FOLDER / (node.module.partition(".")[2] + ".py")).read_text()).body
                names = {part.name for part in home if isinstance(part, (ast.FunctionDef, ast.ClassDef))}
                names |= {part.targets[0].id for part in home if isinstance(part, ast.Assign)}
                self.assertLessEqual({name.name for name in node.names}, names)
                self.assertTrue(all(self.is_used(tree, name.name) for name in node.names))
        self.each(check)
        while edges:
            ends = [name for name in edges if not edges[name] & set(edges)]
            self.assertTrue(ends, f"imports in a ring: {edges}")
            for name in ends:
                del edges[name]

    def is_used(self, tree, name):
        return any(isinstance(node, ast.Name) and node.id == name for node in ast.walk(tree))

    def test_names(self):
        def check(path, tree):
            imported = {name.name for node in tree.body if isinstance(node, ast.ImportFrom) for name in node.names}
            defined = [node.name for node in tree.body if isinstance(node, (ast.FunctionDef, ast.ClassDef))]
            defined += [node.targets[0].id for node in tree.body if isinstance(node, ast.Assign)]
            self.assertEqual(len(defined), len(set(defined)))
            self.assertFalse(set(defined) & imported)
            inner = set(bound_names(tree)) - {node.targets[0].id for node in tree.body if isinstance(node, ast.Assign)}
            self.assertFalse(inner & (imported | set(defined)), "a local name hides one of the file")
            self.assertFalse((inner | set(defined)) & set(dir(builtins)))
            for name in inner | set(defined):
                self.assertTrue(name == "_" or name[0].isalpha() and "__" not in name, name)
        self.each(check)

    def test_what_is_called(self):
        def check(path, tree):
            for node in ast.walk(tree):
                if isinstance(node, ast.Name) and hasattr(builtins, node.id):
                    self.assertIn(node.id, ALLOWED_BUILTINS)
                if isinstance(node, ast.Call) and isinstance(node.func, ast.Attribute):
                    self.assertIn(node.func.attr, ALLOWED_METHODS)
                if isinstance(node, ast.GeneratorExp):
                    self.assertIn(called(node), TAKES_GENERATORS)
                if isinstance(node, ast.SetComp) or isinstance(node, ast.Call) and self.makes_set(node):
                    self.assertIn(called(node), TAKES_SETS)
                if isinstance(node, ast.Raise):
                    self.assertIsInstance(node.exc, ast.Call)
        self.each(check)

    def makes_set(self, node):
        return isinstance(node.func, ast.Name) and node.func.id == "set"

    def test_module_level(self):
        def check(path, tree):
            for node in tree.body[1:]:
                self.assertIsInstance(node, (ast.ImportFrom, ast.FunctionDef, ast.ClassDef, ast.Assign))
                if isinstance(node, ast.Assign):
                    self.assertIsNotNone(ast.literal_eval(node.value))
                    self.assertTrue(node.targets[0].id.isupper())
            for node in [tree, *ast.walk(tree)]:
                if isinstance(node, (ast.Module, ast.FunctionDef, ast.ClassDef)) and node is not tree:
                    if node.name != "__init__":
                        self.assertTrue(ast.get_docstring(node), node.name)
            self.assertTrue(ast.get_docstring(tree))
        self.each(check)


if __name__ == "__main__":
    unittest.main()
