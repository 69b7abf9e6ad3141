"""The interface: names, arguments, and where each of them is defined."""

import doctest
import importlib
import inspect
import pathlib
import unittest

from wholecloth import errors
from wholecloth.counter import Counter
from wholecloth.disk import Disk
from wholecloth.journal import Journal

FUNCTIONS = {
    "wholecloth.meaning": {
        "check_deal": ["ops"], "execute": ["table", "ops"], "spans": ["ops"], "changes": ["table", "ops"],
        "replay": ["deals"],
    },
    "wholecloth.codes": {"flatten": ["record"], "rebuild": ["cells"]},
    "wholecloth.stretches": {
        "overlap": ["first", "second"], "clip": ["first", "second"], "inside": ["first", "second"],
    },
    "wholecloth.table": {"table_of": ["picture"]},
    "wholecloth.machine": {"found": ["identity", "disk", "groups"]},
    "wholecloth.feeds": {
        "feed": ["table", "after", "upto"], "state_at": ["table", "time"], "follow": ["state", "triples"],
    },
    "wholecloth.judge": {"judge": ["history"]},
}
# For each class: its arguments, its methods with theirs, its properties, its fields.
CLASSES = {
    ("wholecloth.disk", "Disk"): (
        [],
        {"write": ["position", "block"], "sync": [], "crash": ["fates"], "look": ["position"], "wipe": []},
        ["size", "waiting"],
        [],
    ),
    ("wholecloth.journal", "Journal"): (["disk"], {"enter": ["record", "sync"]}, [], ["records", "generation"]),
    ("wholecloth.table", "Table"): (
        ["low", "high"],
        {
            "run": ["command"], "value": ["key", "time"], "versions": ["key"], "prepared": [], "decision": ["deal"],
            "picture": [],
        },
        [],
        ["low", "high", "signs", "part"],
    ),
    ("wholecloth.counter", "Counter"): (["last"], {"run": ["command"], "picture": []}, [], ["last"]),
    ("wholecloth.replica", "Replica"): (
        ["me", "group", "base"],
        {
            "stand": [], "nudge": [], "take": ["sender", "letter"], "propose": ["command", "token"], "synced": [],
            "shorten": [], "adopt": ["base"],
        },
        ["last_index", "members"],
        ["me", "group", "term", "voted", "base", "entries", "role", "leader", "committed", "applied", "durable",
         "state", "ledger", "records", "letters", "answers", "births"],
    ),
    ("wholecloth.machine", "Machine"): (
        ["identity", "disk"],
        {
            "take": ["sender", "letter"], "call": ["client", "letter"], "stand": ["group"], "nudge": ["group"],
            "shorten": ["group"], "sync": [], "applied": [], "released": [],
        },
        [],
        ["identity", "disk", "journal", "replicas"],
    ),
    ("wholecloth.clerk", "Clerk"): (
        ["client", "machines", "deals"],
        {"act": [], "forget": [], "hear": ["letter"], "events": [], "idle": []},
        [],
        ["client", "deals", "number", "busy", "places"],
    ),
    ("wholecloth.world", "World"): (
        ["machines", "members", "deals"],
        {"choose": ["choice"], "may_wipe": ["machine"], "settle": [], "story": [], "view": []},
        [],
        ["net", "machines", "identities", "disks", "clerks", "groups", "history", "wiped", "ledgers", "tables"],
    ),
    ("wholecloth.desk", "Desk"): ([], {"do": ["line"]}, [], []),
}
MADE = {
    "Disk": (), "Journal": (Disk(),), "Table": (0, 1000), "Counter": (), "Replica": (0, 1, None),
    "Machine": (0, Disk()), "Clerk": (0, 3, []), "World": (3, 3, []), "Desk": (),
}
ERRORS = ("BadDeal", "BadRecord", "BadHistory", "BadLine")
README = pathlib.Path(__file__).resolve().parent.parent / "README.md"


class Functions(unittest.TestCase):
    def test_names_and_arguments(self):
        for module, functions in FUNCTIONS.items():
            for name, arguments in functions.items():
                function = getattr(importlib.import_module(module), name)
                self.assertTrue(inspect.isfunction(function))
                self.assertEqual(function.__module__, module)
                self.assertEqual(list(inspect.signature(function).parameters), arguments)


def arguments_of(function):
    return [name for name in inspect.signature(function).parameters if name != "self"]


class Classes(unittest.TestCase):
    def test_names_and_arguments(self):
        for (module, name), (arguments, methods, properties, _) in CLASSES.items():
            kind = getattr(importlib.import_module(module), name)
            self.assertTrue(inspect.isclass(kind))
            self.assertEqual(kind.__module__, module)
            self.assertEqual(arguments_of(kind), arguments)
            for method, expected in methods.items():
                self.assertTrue(inspect.isfunction(vars(kind)[method]), (name, method))
                self.assertEqual(arguments_of(vars(kind)[method]), expected, (name, method))
            for attribute in properties:
                self.assertIsInstance(vars(kind)[attribute], property, (name, attribute))

    def test_fields_are_set_at_once(self):
        for (module, name), (_, _, _, fields) in CLASSES.items():
            made = getattr(importlib.import_module(module), name)(*MADE[name])
            for field in fields:
                self.assertIn(field, vars(made), (name, field))

    def test_a_counter_begins_with_0(self):
        self.assertEqual(inspect.signature(Counter).parameters["last"].default, 0)

    def test_sync_is_a_keyword(self):
        parameter = inspect.signature(Journal.enter).parameters["sync"]
        self.assertIs(parameter.kind, inspect.Parameter.KEYWORD_ONLY)
        self.assertIs(parameter.default, False)


class Errors(unittest.TestCase):
    def test_the_base_class(self):
        self.assertEqual(errors.WholeclothError.__bases__, (ValueError,))
        self.assertEqual(errors.WholeclothError.__module__, "wholecloth.errors")

    def test_the_others(self):
        for name in ERRORS:
            error = getattr(errors, name)
            self.assertEqual(error.__bases__, (errors.WholeclothError,))
            self.assertEqual((error.__name__, error.__module__), (name, "wholecloth.errors"))

    def test_they_are_raised_and_caught(self):
        for name in ERRORS:
            for caught in (getattr(errors, name), errors.WholeclothError, ValueError):
                with self.assertRaises(caught):
                    raise getattr(errors, name)("wrong")

    def test_they_are_different(self):
        for name in ERRORS:
            for other in ERRORS:
                self.assertEqual(issubclass(getattr(errors, name), getattr(errors, other)), name == other)


class Readme(unittest.TestCase):
    def test_its_examples(self):
        failed, tried = doctest.testfile(str(README), module_relative=False)
        self.assertGreater(tried, 5)
        self.assertEqual(failed, 0)


if __name__ == "__main__":
    unittest.main()
