"""Points 3 and 4: keys, values, and what a deal is."""

import copy
import unittest

from helpers import Touchy
from wholecloth.errors import BadDeal
from wholecloth.meaning import KEYS, LIMIT, check_deal

TOP = 10 ** 18

GOOD = [
    ("get", 0), ("get", 999), ("get", 500),
    ("put", 0, 1), ("put", 999, TOP), ("put", 5, -TOP), ("put", 5, 0), ("put", 5, None),
    ("add", 0, 0), ("add", 999, TOP), ("add", 3, -TOP),
    ("need", 0, 1), ("need", 999, TOP), ("need", 3, -TOP), ("need", 3, None),
    ("scan", 0, 1000), ("scan", 0, 0), ("scan", 1000, 1000), ("scan", 7, 7), ("scan", 7, 8),
    ("scan", 999, 1000), ("scan", 0, 1),
]

WRONG_KEYS = [-1, 1000, 1001, TOP, -TOP, True, False, None, "5", "", b"5", 5.0, (5,), [5], {}, set(),
              Touchy()]
WRONG_VALUES = [TOP + 1, -TOP - 1, 10 ** 5000, True, False, "7", "none", b"", 7.0, (7,), [7], {}, object(),
                Touchy()]
WRONG_WORDS = ["", "Get", "GET", " get", "sub", "delete", "none", b"get", None, True, 0, 1.5, ("get",), ["get"], {},
               Touchy()]


class Constants(unittest.TestCase):
    def test_constants(self):
        self.assertEqual((KEYS, LIMIT), (1000, 1000000000000000000))
        self.assertIs(type(KEYS), int)
        self.assertIs(type(LIMIT), int)


class Deals(unittest.TestCase):
    def assert_bad(self, ops):
        with self.assertRaises(BadDeal):
            check_deal(ops)

    def assert_bad_operation(self, op):
        self.assert_bad([op])
        self.assert_bad([("get", 1), op])
        self.assert_bad([op, ("get", 1)])

    def test_good_operations(self):
        for op in GOOD:
            with self.subTest(op=op):
                self.assertIsNone(check_deal([op]))

    def test_one_to_six_operations(self):
        for many in range(1, 7):
            self.assertIsNone(check_deal([("put", 1, 2)] * many))
            self.assertIsNone(check_deal(GOOD[:many]))

    def test_wrong_numbers_of_operations(self):
        self.assert_bad([])
        self.assert_bad([("get", 1)] * 7)
        self.assert_bad([("get", 1)] * 100)
        self.assert_bad(GOOD[:7])

    def test_no_list(self):
        for thing in (None, True, 0, 1, "", "get", b"", 1.5, (), (("get", 1),), ("get", 1), {}, {0: ("get", 1)},
                      {("get", 1)}, iter([("get", 1)]), object(), list, Touchy()):
            with self.subTest(thing=thing):
                self.assert_bad(thing)

    def test_no_tuple_for_an_operation(self):
        for op in (None, True, 0, "get", "ge", b"get", 1.5, [], ["get", 1], ["put", 1, 2], {"get": 1}, {"get", 1},
                   [("get", 1)], object(), Touchy()):
            with self.subTest(op=op):
                self.assert_bad_operation(op)

    def test_unknown_words(self):
        for word in WRONG_WORDS:
            with self.subTest(word=word):
                self.assert_bad_operation((word,))
                self.assert_bad_operation((word, 1))
                self.assert_bad_operation((word, 1, 2))

    def test_too_many_or_too_few_parts(self):
        self.assert_bad_operation(())
        self.assert_bad_operation((5,))
        self.assert_bad_operation((("get", 5),))
        for word in ("get", "put", "add", "need", "scan"):
            with self.subTest(word=word):
                self.assert_bad_operation((word,))
                self.assert_bad_operation((word, 1, 2, 3))
                self.assert_bad_operation((word, 1, 2, None))
        self.assert_bad_operation(("get", 1, 2))
        self.assert_bad_operation(("get", 1, None))
        for word in ("put", "add", "need", "scan"):
            self.assert_bad_operation((word, 1))

    def test_wrong_keys(self):
        for key in WRONG_KEYS:
            with self.subTest(key=key):
                self.assert_bad_operation(("get", key))
                for word in ("put", "add", "need"):
                    self.assert_bad_operation((word, key, 1))

    def test_wrong_values(self):
        for value in WRONG_VALUES:
            for word in ("put", "add", "need"):
                with self.subTest(word=word):
                    self.assert_bad_operation((word, 1, value))

    def test_an_amount_is_never_none(self):
        self.assert_bad_operation(("add", 1, None))

    def test_wrong_borders(self):
        for low, high in ((-1, 5), (5, 1001), (1001, 1001), (6, 5), (1000, 999), (1, 0), (-2, -1), (-1, -1)):
            with self.subTest(low=low, high=high):
                self.assert_bad_operation(("scan", low, high))
        for thing in (True, False, None, "5", 5.0, (5,), [5], {}):
            with self.subTest(thing=thing):
                self.assert_bad_operation(("scan", thing, 9))
                self.assert_bad_operation(("scan", 0, thing))
                self.assert_bad_operation(("scan", thing, thing))

    def test_the_list_stays_as_it_was(self):
        for ops in ([], GOOD[:6], GOOD[:7], [("get", 1), ["put", 1, 2]], [("put", 1, [2])], [("get", 1), "get"]):
            before = copy.deepcopy(ops)
            try:
                check_deal(ops)
            except BadDeal:
                pass
            self.assertEqual(ops, before)


if __name__ == "__main__":
    unittest.main()
