"""The interface: names, arguments, and where each of them is defined."""

import doctest
import importlib
import inspect
import pathlib
import unittest

from wholecloth import errors

FUNCTIONS = {
    "wholecloth.meaning": {
        "check_deal": ["ops"], "execute": ["table", "ops"], "spans": ["ops"], "changes": ["table", "ops"],
        "replay": ["deals"],
    },
    "wholecloth.codes": {"flatten": ["record"], "rebuild": ["cells"]},
}
ERRORS = ("BadDeal", "BadRecord", "BadHistory", "BadLine")
README = pathlib.Path(__file__).resolve().parent.parent / "README.md"


class Functions(unittest.TestCase):
    def test_names_and_arguments(self):
        for module, functions in FUNCTIONS.items():
            for name, arguments in functions.items():
                function = getattr(importlib.import_module(module), name)
                self.assertTrue(inspect.isfunction(function))
                self.assertEqual(function.__module__, module)
                self.assertEqual(list(inspect.signature(function).parameters), arguments)


class Errors(unittest.TestCase):
    def test_the_base_class(self):
        self.assertEqual(errors.WholeclothError.__bases__, (ValueError,))
        self.assertEqual(errors.WholeclothError.__module__, "wholecloth.errors")

    def test_the_others(self):
        for name in ERRORS:
            error = getattr(errors, name)
            self.assertEqual(error.__bases__, (errors.WholeclothError,))
            self.assertEqual((error.__name__, error.__module__), (name, "wholecloth.errors"))

    def test_they_are_raised_and_caught(self):
        for name in ERRORS:
            for caught in (getattr(errors, name), errors.WholeclothError, ValueError):
                with self.assertRaises(caught):
                    raise getattr(errors, name)("wrong")

    def test_they_are_different(self):
        for name in ERRORS:
            for other in ERRORS:
                self.assertEqual(issubclass(getattr(errors, name), getattr(errors, other)), name == other)


class Readme(unittest.TestCase):
    def test_its_examples(self):
        failed, tried = doctest.testfile(str(README), module_relative=False)
        self.assertGreater(tried, 5)
        self.assertEqual(failed, 0)


if __name__ == "__main__":
    unittest.main()
