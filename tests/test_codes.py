"""Point 7: records and their cells."""

import itertools
import unittest

from helpers import Touchy
from wholecloth.codes import WORDS, flatten, rebuild
from wholecloth.errors import BadRecord

# All words that stand in quotes in points 13 to 27 of the document.
QUOTED = (
    "decided read away busy rows prepare prepared stale decide missing drop finish split none unknown next time "
    "counter table members follower candidate leader ask vote copy base got make term entry"
).split()

RECORDS = [
    0, 1, -1, 5, 10 ** 18, -10 ** 18, 10 ** 40, 10 ** 5000, None, True, False, "none", "entry",
    (), ((),), (0,), (None, True, False), ((), (), ()), (1, (2, (3, (4,))), "read"),
    ("table", 0, 1000, ((5, ((2, 7), (3, None))),), (), (((0, 0, 0), 2),), ((500, 1000, 2),)),
    ("counter", 12), (0, 1, 2, 3, 4, 5), tuple(range(50)),
]

NO_RECORDS = [
    "", "word", "None", "Table", "table ", "get", b"table", b"", 1.0, 0.5, [], [1], {}, {1: 2}, set(), frozenset(),
    object(), int, len, ..., 1j, float("nan"), Touchy(),
]


def nested(deep, inner=()):
    """A tuple that is nested `deep` deeper than `inner` is."""
    for _ in range(deep):
        inner = (inner,)
    return inner


class Words(unittest.TestCase):
    def test_kinds(self):
        self.assertIs(type(WORDS), tuple)
        for word in WORDS:
            self.assertIs(type(word), str)

    def test_each_once(self):
        self.assertEqual(len(WORDS), len(set(WORDS)))

    def test_all_that_the_document_quotes(self):
        for word in QUOTED:
            self.assertIn(word, WORDS)


class Flatten(unittest.TestCase):
    def test_each_kind(self):
        self.assertEqual(flatten(0), [0, 0])
        self.assertEqual(flatten(1), [0, 1])
        self.assertEqual(flatten(-7), [0, -7])
        self.assertEqual(flatten(10 ** 30), [0, 10 ** 30])
        self.assertEqual(flatten(None), [1])
        self.assertEqual(flatten(False), [2])
        self.assertEqual(flatten(True), [3])
        self.assertEqual(flatten(()), [5, 0])
        self.assertEqual(flatten((7, None, (True, ()), False)), [5, 4, 0, 7, 1, 5, 2, 3, 5, 0, 2])

    def test_words(self):
        for index, word in enumerate(WORDS):
            self.assertEqual(flatten(word), [4, index])
        self.assertEqual(flatten(("none", 1)), [5, 2, 4, WORDS.index("none"), 0, 1])

    def test_cells_are_integers(self):
        for record in RECORDS:
            cells = flatten(record)
            self.assertIs(type(cells), list)
            self.assertEqual({type(cell) for cell in cells}, {int})

    def test_each_call_gives_a_new_list(self):
        for record in RECORDS:
            first = flatten(record)
            kept = list(first)
            first.append(9)
            self.assertEqual(flatten(record), kept)

    def test_what_is_no_record(self):
        for thing in NO_RECORDS:
            for record in (thing, (thing,), (1, (2, thing)), (thing, 1), ((), thing)):
                with self.subTest(record=record):
                    self.assertRaises(BadRecord, flatten, record)

    def test_thirty_deep(self):
        self.assertEqual(flatten(nested(29)), [5, 1] * 29 + [5, 0])
        self.assertEqual(flatten(nested(30, 4)), [5, 1] * 30 + [0, 4])
        self.assertEqual(flatten((1, nested(28), 2, nested(28))),
                         [5, 4, 0, 1] + ([5, 1] * 28 + [5, 0]) + [0, 2] + ([5, 1] * 28 + [5, 0]))

    def test_deeper_than_thirty(self):
        for record in (nested(30), nested(31, 4), nested(31, None), nested(31, "none"), (1, nested(29)), nested(100),
                       nested(100000)):
            self.assertRaises(BadRecord, flatten, record)

    def test_many_parts(self):
        record = tuple([(n, "none") for n in range(3000)])
        self.assertEqual(rebuild(flatten(record)), record)

    def test_what_was_passed_stays_as_it_was(self):
        inner = [1, 2]
        self.assertRaises(BadRecord, flatten, (1, inner))
        self.assertEqual(inner, [1, 2])


class Rebuild(unittest.TestCase):
    def assert_bad(self, cells):
        before = list(cells)
        self.assertRaises(BadRecord, rebuild, cells)
        self.assertEqual([id(cell) for cell in cells], [id(cell) for cell in before])

    def test_each_kind(self):
        self.assertIsNone(rebuild([1]))
        self.assertIs(rebuild([2]), False)
        self.assertIs(rebuild([3]), True)
        for number in (0, 1, -1, 10 ** 18, 10 ** 40):
            self.assertEqual(rebuild([0, number]), number)
            self.assertIs(type(rebuild([0, number])), int)
        for index, word in enumerate(WORDS):
            self.assertEqual(rebuild([4, index]), word)
        self.assertEqual(rebuild([5, 0]), ())
        self.assertEqual(repr(rebuild([5, 4, 0, 7, 1, 5, 2, 3, 5, 0, 2])), "(7, None, (True, ()), False)")

    def test_what_was_flattened(self):
        for record in RECORDS:
            cells = flatten(record)
            kept = list(cells)
            again = rebuild(cells)
            self.assertEqual(again, record)
            self.assertEqual(flatten(again), kept)
            self.assertEqual(cells, kept)

    def test_cells_that_are_cut(self):
        for record in RECORDS:
            cells = flatten(record)
            for length in range(len(cells)):
                self.assert_bad(cells[:length])

    def test_a_cell_too_many(self):
        for record in RECORDS:
            cells = flatten(record)
            for more in (-1, 0, 1, 2, 3, 4, 5, 6, 10 ** 20):
                self.assert_bad(cells + [more])
            for more in RECORDS[:12]:
                self.assert_bad(cells + flatten(more))

    def test_unknown_kinds(self):
        for kind in (-1, -5, 6, 7, 100, 10 ** 20, -10 ** 20):
            for cells in ([kind], [kind, 0], [kind, 0, 0], [5, 1, kind], [5, 1, kind, 0]):
                self.assert_bad(cells)

    def test_wrong_words(self):
        for index in (-1, -len(WORDS), len(WORDS), len(WORDS) + 1, 10 ** 20, -10 ** 20):
            self.assert_bad([4, index])
            self.assert_bad([5, 1, 4, index])

    def test_wrong_lengths(self):
        for length in (-1, -2, 1, 2, 10 ** 9, 10 ** 30, -10 ** 30):
            self.assert_bad([5, length])
            self.assert_bad([5, 1, 5, length])
        self.assert_bad([5, -1, 1])
        self.assert_bad([5, 2, 1])
        self.assert_bad([5, 10 ** 30, 1, 1, 1])
        self.assert_bad([5, 2, 0, 1])
        self.assert_bad([5, 2, 1, 4])

    def test_thirty_deep(self):
        self.assertEqual(rebuild([5, 1] * 29 + [5, 0]), nested(29))
        self.assertEqual(rebuild([5, 1] * 30 + [1]), nested(30, None))
        self.assertEqual(rebuild([5, 2] + ([5, 1] * 28 + [5, 0]) * 2), (nested(28), nested(28)))

    def test_deeper_than_thirty(self):
        self.assert_bad([5, 1] * 30 + [5, 0])
        self.assert_bad([5, 1] * 31 + [1])
        self.assert_bad([5, 1] * 31 + [0, 4])
        self.assert_bad([5, 2, 1] + [5, 1] * 29 + [5, 0])
        self.assert_bad([5, 1] * 100000 + [5, 0])
        self.assert_bad([5, 1] * 100000)

    def test_cells_that_are_no_integers(self):
        for cell in (True, False, None, "0", 0.0, 1.0, 5.0, b"", (), (0,), [0], [], {}, object(), Touchy()):
            for cells in ([cell], [0, cell], [4, cell], [5, cell], [5, 1, cell], [5, 2, 1, cell], [1, cell], [cell, 0],
                          [5, 1, 0, cell]):
                with self.subTest(cells=cells):
                    self.assert_bad(cells)

    def test_no_list_of_cells(self):
        for thing in (None, True, 1, "", "01", b"", (), (0, 5), {}, {0: 5}, object(), Touchy()):
            self.assertRaises(BadRecord, rebuild, thing)

    def test_no_list_of_few_cells_is_the_cells_of_two_records(self):
        found = []
        for length in range(6):
            for cells in itertools.product((-1, 0, 1, 2, 3, 4, 5, 6), repeat=length):
                try:
                    record = rebuild(list(cells))
                except BadRecord:
                    continue
                self.assertEqual(flatten(record), list(cells))
                found.append(record)
        written = [repr(record) for record in found]
        self.assertEqual(len(written), len(set(written)))
        for record in ("None", "()", "(0,)", "(None, True)", "((), None)", "((True,),)", "(-1, None)"):
            self.assertIn(record, written)


if __name__ == "__main__":
    unittest.main()
