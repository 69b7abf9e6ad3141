"""Point 42: feeds, the states of tables at times, and following a feed."""

import copy
import unittest

from helpers import numbers
from wholecloth.feeds import feed, follow, state_at
from wholecloth.table import Table


def table_with(*rows, low=0, high=1000):
    """A table with versions (time, key, value)."""
    table = Table(low, high)
    for n, (time, key, value) in enumerate(rows):
        assert table.run(("prepare", (0, n, 0), 10 ** 9, (), ((key, value),), 1)) == ("prepared",)
        table.run(("decide", (0, n, 0), time))
    return table


class Feeds(unittest.TestCase):
    def setUp(self):
        self.table = table_with((5, 7, 70), (3, 9, 90), (5, 2, None), (8, 7, None), (2, 7, 1), (5, 999, -4), (8, 0, 0))

    def test_the_order_is_that_of_times_and_keys(self):
        self.assertEqual(feed(self.table, 0, 100), [
            (2, 7, 1), (3, 9, 90), (5, 2, None), (5, 7, 70), (5, 999, -4), (8, 0, 0), (8, 7, None)])

    def test_the_first_time_is_not_counted_the_second_one_is(self):
        self.assertEqual(feed(self.table, 2, 5), [(3, 9, 90), (5, 2, None), (5, 7, 70), (5, 999, -4)])
        self.assertEqual(feed(self.table, 3, 4), [])
        self.assertEqual(feed(self.table, 7, 8), [(8, 0, 0), (8, 7, None)])
        self.assertEqual(feed(self.table, -3, 2), [(2, 7, 1)])

    def test_times_that_are_equal_or_turned_round(self):
        for after, upto in ((5, 5), (8, 2), (100, 0), (8, 10 ** 20), (0, 0), (-5, 1)):
            self.assertEqual(feed(self.table, after, upto), [])

    def test_states(self):
        expected = {0: {}, 1: {}, 2: {7: 1}, 3: {7: 1, 9: 90}, 4: {7: 1, 9: 90}, 5: {7: 70, 9: 90, 999: -4},
                    8: {0: 0, 9: 90, 999: -4}, 10 ** 20: {0: 0, 9: 90, 999: -4}, -1: {}}
        for time, state in expected.items():
            self.assertEqual(state_at(self.table, time), state, time)

    def test_following(self):
        state = {7: 1, 5: 5}
        before = dict(state)
        triples = [(3, 9, 90), (5, 7, None), (6, 9, 91), (6, 4, None)]
        after = follow(state, triples)
        self.assertEqual((after, state), ({5: 5, 9: 91}, before))
        self.assertEqual(triples, [(3, 9, 90), (5, 7, None), (6, 9, 91), (6, 4, None)])
        again = follow(state, [])
        self.assertEqual(again, state)
        self.assertIsNot(again, state)

    def test_following_goes_in_order(self):
        self.assertEqual(follow({}, [(1, 4, 1), (2, 4, None)]), {})
        self.assertEqual(follow({}, [(1, 4, None), (2, 4, 1)]), {4: 1})
        self.assertEqual(follow({}, [(9, 4, 1), (2, 4, 2)]), {4: 2})

    def test_an_empty_table(self):
        self.assertEqual((feed(Table(0, 1000), 0, 9), state_at(Table(0, 1000), 9)), ([], {}))

    def test_a_split_table_keeps_its_own_keys(self):
        self.table.run(("split", 7, 2))
        self.assertEqual(feed(self.table, 0, 100), [(5, 2, None), (8, 0, 0)])
        self.assertEqual(feed(self.table.part, 4, 100), [(5, 7, 70), (5, 999, -4), (8, 7, None)])
        self.assertEqual((state_at(self.table, 9), state_at(self.table.part, 5)), ({0: 0}, {7: 70, 9: 90, 999: -4}))

    def test_prepared_deals_do_not_count(self):
        self.table.run(("prepare", (1, 0, 0), 6, (), ((7, 5),), 1))
        self.assertEqual(state_at(self.table, 100), {0: 0, 9: 90, 999: -4})
        self.assertEqual(len(feed(self.table, 0, 100)), 7)

    def test_nothing_changes(self):
        before = self.table.picture()
        feed(self.table, 0, 9).clear()
        state_at(self.table, 9).clear()
        self.assertEqual(self.table.picture(), before)

    def test_a_feed_leads_from_one_state_to_the_other(self):
        source = numbers(3)
        for _ in range(200):
            rows = [(1 + next(source) % 12, next(source) % 6, (None, 0, 1, 2)[next(source) % 4]) for _ in range(20)]
            table = table_with(*rows)
            after, upto = sorted((next(source) % 14, next(source) % 14))
            state = state_at(table, after)
            before = copy.deepcopy(state)
            triples = feed(table, after, upto)
            self.assertEqual(follow(state, triples), state_at(table, upto))
            self.assertEqual(state, before)
            last = {}
            for time, key, value in rows:
                last[time, key] = value
            self.assertEqual(triples, sorted(((time, key, value) for (time, key), value in last.items()
                                              if after < time <= upto), key=lambda row: row[:2]))


if __name__ == "__main__":
    unittest.main()
