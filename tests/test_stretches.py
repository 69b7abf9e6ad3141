"""Point 12: stretches."""

import unittest

from wholecloth.stretches import clip, inside, overlap

FEW = [(low, high) for low in range(8) for high in range(low, 8)]


def keys(stretch):
    return set(range(stretch[0], stretch[1]))


class Stretches(unittest.TestCase):
    def test_overlap(self):
        self.assertIs(overlap((0, 5), (4, 9)), True)
        self.assertIs(overlap((4, 9), (0, 5)), True)
        self.assertIs(overlap((0, 1000), (999, 1000)), True)
        self.assertIs(overlap((0, 4), (6, 9)), False)

    def test_clip(self):
        self.assertEqual(clip((0, 5), (4, 9)), (4, 5))
        self.assertEqual(clip((0, 1000), (999, 1000)), (999, 1000))
        self.assertEqual(clip((3, 7), (3, 7)), (3, 7))
        self.assertEqual(clip((1, 9), (3, 7)), (3, 7))
        self.assertEqual(clip((3, 7), (1, 9)), (3, 7))
        self.assertIs(type(clip((0, 5), (4, 9))), tuple)
        self.assertIsNone(clip((0, 4), (6, 9)))

    def test_inside(self):
        self.assertIs(inside((3, 7), (1, 9)), True)
        self.assertIs(inside((3, 7), (3, 7)), True)
        self.assertIs(inside((0, 1000), (0, 1000)), True)
        self.assertIs(inside((1, 9), (3, 7)), False)
        self.assertIs(inside((2, 7), (3, 7)), False)
        self.assertIs(inside((3, 8), (3, 7)), False)

    def test_stretches_that_touch(self):
        for first, second in (((0, 5), (5, 9)), ((5, 9), (0, 5)), ((0, 999), (999, 1000))):
            self.assertIs(overlap(first, second), False)
            self.assertIsNone(clip(first, second))
            self.assertIs(inside(first, second), False)

    def test_empty_stretches(self):
        for empty in ((0, 0), (5, 5), (7, 7), (1000, 1000)):
            for other in ((0, 1000), (5, 5), (5, 7), (3, 5), (0, 0), (1000, 1000)):
                for first, second in ((empty, other), (other, empty)):
                    self.assertIs(overlap(first, second), False)
                    self.assertIsNone(clip(first, second))
                    self.assertIs(inside(first, second), False)

    def test_all_pairs_of_few_keys(self):
        for first in FEW:
            for second in FEW:
                common = keys(first) & keys(second)
                expected = (min(common), max(common) + 1) if common else None
                self.assertEqual(clip(first, second), expected)
                self.assertIs(overlap(first, second), bool(common))
                self.assertIs(inside(first, second), bool(keys(first)) and keys(first) <= keys(second))


if __name__ == "__main__":
    unittest.main()
