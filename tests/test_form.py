"""The form of the package: files, characters, sizes, imports, statements and names."""

import ast
import builtins
import pathlib
import unittest

PACKAGE = pathlib.Path(__file__).resolve().parent.parent / "wholecloth"
BUILTINS = set(
    "len range enumerate zip min max sum abs sorted reversed int str bool list tuple dict set isinstance ord repr any "
    "all divmod pow iter next map Exception ValueError TypeError KeyError IndexError LookupError ZeroDivisionError "
    "ArithmeticError OverflowError RuntimeError NotImplementedError NotImplemented".split())
BANNED = (ast.Global, ast.AsyncFunctionDef, ast.AsyncFor, ast.AsyncWith, ast.Await)
MODULE_LEVEL = (ast.Expr, ast.ImportFrom, ast.FunctionDef, ast.ClassDef, ast.Assign)


def files():
    return sorted(PACKAGE.rglob("*.py"))


def nodes(path):
    return ast.walk(ast.parse(path.read_text(encoding="utf-8")))


class Form(unittest.TestCase):
    def test_only_files_of_python(self):
        for path in PACKAGE.rglob("*"):
            if "__pycache__" not in path.parts:
                self.assertTrue(path.is_dir() or path.suffix == ".py", path)
        self.assertIn(PACKAGE / "__init__.py", files())

    def test_characters_and_sizes(self):
        for path in files():
            lines = path.read_text(encoding="utf-8").split("\n")
            self.assertLess(len(lines), 400, path)
            for number, line in enumerate(lines, 1):
                where = f"{path}:{number}"
                self.assertTrue(all(" " <= letter <= "~" for letter in line), where)
                self.assertLessEqual(len(line), 120, where)

    def test_functions_are_small(self):
        for path in files():
            for node in nodes(path):
                if isinstance(node, ast.FunctionDef):
                    self.assertLessEqual(node.end_lineno - node.lineno + 1, 40, f"{path}:{node.lineno}")

    def test_imports_name_files_of_the_package(self):
        for path in files():
            for node in nodes(path):
                self.assertNotIsInstance(node, ast.Import, path)
                if isinstance(node, ast.ImportFrom):
                    self.assertEqual(node.level, 0, path)
                    self.assertRegex(node.module, "^(wholecloth[.][a-z]+|heapq|math|itertools|collections)$")
                    self.assertNotIn("*", [name.name for name in node.names])

    def test_statements(self):
        for path in files():
            for node in ast.parse(path.read_text(encoding="utf-8")).body:
                self.assertIsInstance(node, MODULE_LEVEL, f"{path}:{node.lineno}")
            for node in nodes(path):
                self.assertNotIsInstance(node, BANNED, path)
                if isinstance(node, ast.BinOp):
                    self.assertNotIsInstance(node.op, ast.Div, f"{path}:{node.lineno}")

    def test_builtins(self):
        for path in files():
            for node in nodes(path):
                if isinstance(node, ast.Name) and hasattr(builtins, node.id):
                    self.assertIn(node.id, BUILTINS, f"{path}:{node.lineno}")
                    self.assertIsInstance(node.ctx, ast.Load, f"{path}:{node.lineno}")
                if isinstance(node, ast.arg):
                    self.assertFalse(hasattr(builtins, node.arg), f"{path}:{node.lineno}")

    def test_strings(self):
        for path in files():
            for node in nodes(path):
                if isinstance(node, ast.Constant) and isinstance(node.value, (str, float)):
                    self.assertIsInstance(node.value, str, f"{path}:{node.lineno}")
                    self.assertNotIn(chr(37), node.value, f"{path}:{node.lineno}")


if __name__ == "__main__":
    unittest.main()
