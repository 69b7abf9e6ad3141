"""Points 16 and 17: counters."""

import unittest

from wholecloth.codes import flatten, rebuild
from wholecloth.counter import Counter


class Counters(unittest.TestCase):
    def test_next_gives_the_numbers_that_follow(self):
        counter = Counter()
        self.assertEqual(counter.last, 0)
        self.assertEqual([counter.run(("next",)) for _ in range(3)], [("time", 1), ("time", 2), ("time", 3)])
        self.assertEqual(counter.last, 3)

    def test_it_may_begin_anywhere(self):
        counter = Counter(last=41)
        self.assertEqual(counter.last, 41)
        self.assertEqual(counter.run(("next",)), ("time", 42))
        self.assertEqual(Counter(7).run(("next",)), ("time", 8))

    def test_none_changes_nothing(self):
        counter = Counter(5)
        self.assertEqual(counter.run(("none",)), ("none",))
        self.assertEqual(counter.last, 5)

    def test_anything_else_is_unknown(self):
        commands = [
            ("next", 1), ("next", ()), ("none", None), ("nexts",), ("time",), ("read", (0, 0, 0), 1, 0, 9),
            ("prepare", (0, 0, 0), 1, (), ((5, 6),), 1), ("decide", (0, 0, 0), 2), ("drop", (0, 0, 0)),
            ("finish", (0, 0, 0), 2), ("split", 500, 2), ("members", (0, 1)), (1,), (None,), (("next",),),
        ]
        for command in commands:
            counter = Counter(5)
            self.assertEqual(counter.run(command), ("unknown",), command)
            self.assertEqual(counter.last, 5)

    def test_the_picture(self):
        counter = Counter()
        self.assertEqual(counter.picture(), ("counter", 0))
        counter.run(("next",))
        self.assertEqual(counter.picture(), ("counter", 1))
        self.assertEqual(rebuild(flatten(counter.picture())), counter.picture())

    def test_a_picture_makes_an_equal_counter(self):
        counter = Counter(10 ** 30)
        again = Counter(counter.picture()[1])
        for command in (("next",), ("none",), ("next", 2), ("next",)):
            self.assertEqual(again.run(command), counter.run(command))
        self.assertEqual(again.picture(), counter.picture())

    def test_counters_share_nothing(self):
        first, second = Counter(), Counter()
        first.run(("next",))
        self.assertEqual(second.last, 0)


if __name__ == "__main__":
    unittest.main()
