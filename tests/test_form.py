"""The form of the package's files, as far as a few plain questions tell: see ../shared/LANGUAGE.md."""

import ast
import builtins
import pathlib
import unittest

PACKAGE = pathlib.Path(__file__).resolve().parent.parent / "heapcode"
FILES = sorted(path for path in PACKAGE.rglob("*") if path.is_file() and "__pycache__" not in path.parts)
METHODS = ("__init__", "__eq__", "__len__", "__getitem__", "__iter__")
PLAIN = (
    ast.FunctionDef, ast.ClassDef, ast.Assign, ast.ImportFrom, ast.Expr, ast.Return, ast.If, ast.For, ast.While,
    ast.Raise, ast.AugAssign, ast.Pass, ast.Break, ast.Continue, ast.Assert,
)
BUILTINS = (
    "len", "range", "enumerate", "zip", "min", "max", "sum", "abs", "sorted", "reversed", "int", "str", "bool", "list",
    "tuple", "dict", "set", "isinstance", "any", "all", "divmod", "ValueError", "TypeError",
)


class TestForm(unittest.TestCase):

    def test_files(self):
        for path in FILES:
            with self.subTest(path.name):
                self.assertEqual(path.suffix, ".py")
                text = path.read_bytes()
                self.assertTrue(all(sign == 10 or 32 <= sign <= 126 for sign in text))
                lines = text.decode("ascii").split("\n")
                self.assertLessEqual(len(lines) - 1, 399)
                self.assertLessEqual(max(map(len, lines)), 120)

    def test_statements(self):
        for path in FILES:
            for node in ast.walk(ast.parse(path.read_text())):
                where = f"{path.name}:{getattr(node, 'lineno', 0)}"
                with self.subTest(where):
                    if isinstance(node, ast.stmt):
                        self.assertIsInstance(node, PLAIN)
                    if isinstance(node, ast.ImportFrom):
                        self.assertTrue(node.module.startswith("heapcode.") and node.level == 0)
                    if isinstance(node, ast.FunctionDef):
                        self.assertLessEqual(node.end_lineno - node.lineno + 1, 40)
                        self.assertEqual(node.decorator_list, [])
                        self.assertTrue(not node.name.startswith("__") or node.name in METHODS)
                    if isinstance(node, ast.Constant) and isinstance(node.value, str):
                        self.assertNotIn("%", node.value)
                    if isinstance(node, ast.Constant):
                        self.assertNotIsInstance(node.value, (float, complex))
                    if isinstance(node, ast.Name) and isinstance(node.ctx, ast.Load) and hasattr(builtins, node.id):
                        self.assertIn(node.id, BUILTINS)
                    if isinstance(node, (ast.Name, ast.arg)) and not isinstance(getattr(node, "ctx", None), ast.Load):
                        self.assertFalse(hasattr(builtins, getattr(node, "id", None) or getattr(node, "arg", "")))


if __name__ == "__main__":
    unittest.main()
