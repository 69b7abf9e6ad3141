"""Points 29 and 30: the places of a clerk, and the parts of spans."""

import copy
import unittest

from helpers import numbers
from wholecloth.places import group_of, parts_of

ALL = [(0, 1000, 1)]
SPLIT = [(0, 1000, 1), (500, 1000, 2), (700, 1000, 3), (300, 500, 4)]


class Places(unittest.TestCase):
    def test_the_last_place_counts(self):
        for key, group in ((0, 1), (299, 1), (300, 4), (499, 4), (500, 2), (699, 2), (700, 3), (999, 3)):
            self.assertEqual(group_of(SPLIT, key), group)
            self.assertEqual(group_of(ALL, key), 1)

    def test_spans_in_one_group(self):
        self.assertEqual(parts_of(ALL, [(4, 5), (2, 9), (0, 1000)]), [(4, 5, 1), (2, 9, 1), (0, 1000, 1)])
        self.assertEqual(parts_of(SPLIT, [(500, 700)]), [(500, 700, 2)])
        self.assertEqual(parts_of(ALL, []), [])

    def test_spans_in_several_groups(self):
        self.assertEqual(parts_of(SPLIT, [(0, 1000)]), [(0, 300, 1), (300, 500, 4), (500, 700, 2), (700, 1000, 3)])
        self.assertEqual(parts_of(SPLIT, [(299, 301)]), [(299, 300, 1), (300, 301, 4)])
        self.assertEqual(parts_of(SPLIT, [(699, 701), (300, 500)]), [(699, 700, 2), (700, 701, 3), (300, 500, 4)])

    def test_parts_that_are_listed_already(self):
        self.assertEqual(parts_of(SPLIT, [(499, 501), (499, 500), (500, 501), (498, 501), (499, 501)]),
                         [(499, 500, 4), (500, 501, 2), (498, 500, 4)])

    def test_one_group_may_come_twice(self):
        places = [(0, 1000, 1), (300, 600, 2)]
        self.assertEqual(parts_of(places, [(0, 1000)]), [(0, 300, 1), (300, 600, 2), (600, 1000, 1)])

    def test_neighbours_of_one_group_are_one_part(self):
        places = [(0, 1000, 1), (300, 600, 2), (600, 800, 2), (700, 750, 2), (100, 200, 1)]
        self.assertEqual(parts_of(places, [(0, 1000)]), [(0, 300, 1), (300, 800, 2), (800, 1000, 1)])

    def test_key_by_key(self):
        source = numbers(5)
        for _ in range(300):
            places = [(0, 30, 1)]
            for _ in range(next(source) % 5):
                low = next(source) % 30
                places.append((low, low + 1 + next(source) % (30 - low), next(source) % 4))
            low = next(source) % 30
            span = (low, low + 1 + next(source) % (30 - low))
            before = copy.deepcopy((places, span))
            parts = parts_of(places, [span])
            self.assertEqual((places, span), before)
            keys = [(key, group) for first, behind, group in parts for key in range(first, behind)]
            self.assertEqual(keys, [(key, [group for a, b, group in places if a <= key < b][-1])
                                    for key in range(*span)])
            self.assertTrue(all(one[2] != other[2] for one, other in zip(parts, parts[1:])))


if __name__ == "__main__":
    unittest.main()
