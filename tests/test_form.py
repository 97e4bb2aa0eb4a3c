"""The form of the package's files, as far as a few plain questions tell: see ../shared/LANGUAGE.md."""

import ast
import builtins
import pathlib
import unittest

PACKAGE = pathlib.Path(__file__).resolve().parent.parent / "heapcode"
FILES = sorted(path for path in PACKAGE.rglob("*") if path.is_file() and "__pycache__" not in path.parts)
METHODS = ("__init__", "__eq__", "__len__", "__getitem__", "__iter__")
PLAIN = (
    ast.FunctionDef, ast.ClassDef, ast.Assign, ast.ImportFrom, ast.Expr, ast.Return, ast.If, ast.For, ast.While,
    ast.Raise, ast.AugAssign, ast.Pass, ast.Break, ast.Continue, ast.Assert, ast.Delete,
)
# Names of methods of builtin values that attributes may have all the same.
ALLOWED = {"count", "index", "title", "find", "get", "join", "lower", "upper", "split", "strip", "copy", "add"}
BUILTINS = (
    "len", "range", "enumerate", "zip", "min", "max", "sum", "abs", "sorted", "reversed", "int", "str", "bool", "list",
    "tuple", "dict", "set", "isinstance", "any", "all", "divmod", "ValueError", "TypeError",
)


class TestForm(unittest.TestCase):

    def test_files(self):
        for path in FILES:
            with self.subTest(path.name):
                self.assertEqual(path.suffix, ".py")
                text = path.read_bytes()
                self.assertTrue(all(sign == 10 or 32 <= sign <= 126 for sign in text))
                lines = text.decode("ascii").split("\n")
                self.assertLessEqual(len(lines) - 1, 399)
                self.assertLessEqual(max(map(len, lines)), 120)

    def test_statements(self):
        for path in FILES:
            for node in ast.walk(ast.parse(path.read_text())):
                where = f"{path.name}:{getattr(node, 'lineno', 0)}"
                with self.subTest(where):
                    if isinstance(node, ast.stmt):
                        self.assertIsInstance(node, PLAIN)
                    if isinstance(node, ast.ImportFrom):
                        self.assertTrue(node.module.startswith("heapcode.") and node.level == 0)
                    if isinstance(node, ast.FunctionDef):
                        self.assertLessEqual(node.end_lineno - node.lineno + 1, 40)
                        self.assertEqual(node.decorator_list, [])
                        self.assertTrue(not node.name.startswith("__") or node.name in METHODS)
                    if isinstance(node, ast.Constant) and isinstance(node.value, str):
                        self.assertNotIn("%", node.value)
                    if isinstance(node, ast.Constant):
                        self.assertNotIsInstance(node.value, (float, complex))
                    if isinstance(node, ast.Name) and isinstance(node.ctx, ast.Load) and hasattr(builtins, node.id):
                        self.assertIn(node.id, BUILTINS)
                    if isinstance(node, (ast.Name, ast.arg)) and not isinstance(getattr(node, "ctx", None), ast.Load):
                        self.assertFalse(hasattr(builtins, getattr(node, "id", None) or getattr(node, "arg", "")))

    def test_names_of_functions_and_attributes(self):
        methods, attributes = {}, {}
        taken = {name for kind in (str, int, list, dict, set, bytes) for name in dir(kind)} - ALLOWED
        for path in FILES:
            for node in ast.walk(ast.parse(path.read_text())):
                if isinstance(node, (ast.FunctionDef, ast.ClassDef)) and not node.name.startswith("__"):
                    self.assertFalse(hasattr(builtins, node.name), node.name)
                if isinstance(node, ast.ClassDef):
                    for part in node.body:
                        if isinstance(part, ast.FunctionDef) and not part.name.startswith("__"):
                            methods.setdefault(part.name, path.name)
                if isinstance(node, ast.Attribute) and isinstance(node.ctx, ast.Store):
                    attributes.setdefault(node.attr, path.name)
        self.assertEqual(set(methods) & set(attributes), set())
        self.assertEqual((set(methods) | set(attributes)) & taken, set())

    def test_imports(self):
        imports = {}
        for path in FILES:
            tree = ast.parse(path.read_text())
            nodes = [node for node in tree.body if isinstance(node, ast.ImportFrom)]
            imports[f"heapcode.{path.stem}"] = {node.module for node in nodes}
            names = {alias.name for node in nodes for alias in node.names}
            used = {node.id for node in ast.walk(tree) if isinstance(node, ast.Name)}
            self.assertEqual(names - used, set(), path.name)
        while imports:
            # A file that imports none of those that are left; if there is none they import each other.
            free = [name for name, needed in imports.items() if not needed & set(imports)]
            self.assertNotEqual(free, [], imports)
            for name in free:
                del imports[name]

    def test_values_at_module_level(self):
        for path in FILES:
            tree = ast.parse(path.read_text())
            functions = {node.name for node in tree.body if isinstance(node, ast.FunctionDef)}
            for node in tree.body:
                if isinstance(node, ast.Assign):
                    names = {part.id for part in ast.walk(node.value) if isinstance(part, ast.Name)}
                    self.assertEqual(names - functions, set(), path.name)
                    self.assertEqual(len(node.targets), 1)


if __name__ == "__main__":
    unittest.main()
