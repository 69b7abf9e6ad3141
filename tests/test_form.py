"""The form of the package: files, characters, sizes, imports, statements and names."""

import ast
import builtins
import pathlib
import unittest

PACKAGE = pathlib.Path(__file__).resolve().parent.parent / "wholecloth"
BUILTINS = set(
    "len range enumerate zip min max sum abs sorted reversed int str bool list tuple dict set isinstance ord repr any "
    "all divmod pow iter next map Exception ValueError TypeError KeyError IndexError LookupError ZeroDivisionError "
    "ArithmeticError OverflowError RuntimeError NotImplementedError NotImplemented".split())
# What no attribute is called, and what nothing at all is called.
NO_ATTRIBUTES = set(
    "items keys values pop update append clear extend insert remove reverse setdefault sort args encode decode hex "
    "fromhex format format_map mro".split())
NO_NAMES = set("register mro elements open input law version_info with_traceback add_note".split())
BANNED = (ast.Global, ast.AsyncFunctionDef, ast.AsyncFor, ast.AsyncWith, ast.Await)
MODULE_LEVEL = (ast.Expr, ast.ImportFrom, ast.FunctionDef, ast.ClassDef, ast.Assign)


def name_of(node):
    """The name that a node binds or reads, or None."""
    for field in ("id", "attr", "arg", "name"):
        if isinstance(getattr(node, field, None), str):
            return getattr(node, field)
    return None


def classes():
    return [node for path in files() for node in nodes(path) if isinstance(node, ast.ClassDef)]


def methods(node):
    return [row for row in node.body if isinstance(row, ast.FunctionDef)]


def properties():
    return {row.name for node in classes() for row in methods(node) if row.decorator_list}


def stored(node):
    """The names of the attributes that are assigned somewhere in a node."""
    return {row.attr for row in ast.walk(node) if isinstance(row, ast.Attribute) and isinstance(row.ctx, ast.Store)}


def files():
    return sorted(PACKAGE.rglob("*.py"))


def nodes(path):
    return ast.walk(ast.parse(path.read_text(encoding="utf-8")))


class Form(unittest.TestCase):
    def test_only_files_of_python(self):
        for path in PACKAGE.rglob("*"):
            if "__pycache__" not in path.parts:
                self.assertTrue(path.is_dir() or path.suffix == ".py", path)
        self.assertIn(PACKAGE / "__init__.py", files())

    def test_characters_and_sizes(self):
        for path in files():
            lines = path.read_text(encoding="utf-8").split("\n")
            self.assertLess(len(lines), 400, path)
            for number, line in enumerate(lines, 1):
                where = f"{path}:{number}"
                self.assertTrue(all(" " <= letter <= "~" for letter in line), where)
                self.assertLessEqual(len(line), 120, where)

    def test_functions_are_small(self):
        for path in files():
            for node in nodes(path):
                if isinstance(node, ast.FunctionDef):
                    self.assertLessEqual(node.end_lineno - node.lineno + 1, 40, f"{path}:{node.lineno}")

    def test_imports_name_files_of_the_package(self):
        for path in files():
            for node in nodes(path):
                self.assertNotIsInstance(node, ast.Import, path)
                if isinstance(node, ast.ImportFrom):
                    self.assertEqual(node.level, 0, path)
                    self.assertRegex(node.module, "^(wholecloth[.][a-z]+|heapq|math|itertools|collections)$")
                    self.assertNotIn("*", [name.name for name in node.names])

    def test_statements(self):
        for path in files():
            for node in ast.parse(path.read_text(encoding="utf-8")).body:
                self.assertIsInstance(node, MODULE_LEVEL, f"{path}:{node.lineno}")
            for node in nodes(path):
                self.assertNotIsInstance(node, BANNED, path)
                if isinstance(node, ast.BinOp):
                    self.assertNotIsInstance(node.op, ast.Div, f"{path}:{node.lineno}")

    def test_builtins(self):
        for path in files():
            for node in nodes(path):
                if isinstance(node, ast.Name) and hasattr(builtins, node.id) and node.id != "property":
                    self.assertIn(node.id, BUILTINS, f"{path}:{node.lineno}")
                    self.assertIsInstance(node.ctx, ast.Load, f"{path}:{node.lineno}")
                if isinstance(node, ast.arg):
                    self.assertFalse(hasattr(builtins, node.arg), f"{path}:{node.lineno}")

    def test_names(self):
        for path in files():
            for node in nodes(path):
                name = name_of(node)
                self.assertNotIn(name, NO_NAMES, path)
                if name is not None and not isinstance(node, ast.Attribute):
                    self.assertRegex(name, "^(__init__|[a-zA-Z][a-zA-Z0-9_]*|_)$", path)
            self.assertEqual(stored(ast.parse(path.read_text(encoding="utf-8"))) & NO_ATTRIBUTES, set(), path)

    def test_decorators_stand_over_properties(self):
        for path in files():
            for node in nodes(path):
                for decorator in getattr(node, "decorator_list", []):
                    self.assertEqual(ast.unparse(decorator), "property", f"{path}:{node.lineno}")
        for path in files():
            self.assertEqual(stored(ast.parse(path.read_text(encoding="utf-8"))) & properties(), set(), path)

    def test_methods_and_attributes_have_different_names(self):
        for node in classes():
            names = [row.name for row in methods(node)]
            self.assertEqual(len(names), len(set(names)), node.name)
            self.assertEqual(stored(node) & set(names), set(), node.name)
            plain = {row.name for row in methods(node) if not row.decorator_list}
            self.assertEqual(plain & properties(), set(), node.name)

    def test_strings(self):
        for path in files():
            for node in nodes(path):
                if isinstance(node, ast.Constant) and isinstance(node.value, (str, float)):
                    self.assertIsInstance(node.value, str, f"{path}:{node.lineno}")
                    self.assertNotIn(chr(37), node.value, f"{path}:{node.lineno}")


if __name__ == "__main__":
    unittest.main()
