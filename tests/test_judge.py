"""Point 43: the judge."""

import copy
import itertools
import unittest

from helpers import Touchy, numbers
from wholecloth.errors import BadHistory
from wholecloth.judge import judge
from wholecloth.meaning import execute

GET, ADD = [("get", 0)], [("add", 0, 1)]


def is_right(history, names):
    """A plain reading of what a list of names has to be."""
    asked = {event[1]: place for place, event in enumerate(history) if event[0] == "asked"}
    deals = {event[1]: event[2] for event in history if event[0] == "asked"}
    told = {event[1]: place for place, event in enumerate(history) if event[0] == "told"}
    answers = {event[1]: event[2:] for event in history if event[0] == "told"}
    if len(set(names)) != len(names) or not set(told) <= set(names) <= set(asked):
        return False
    table = {}
    for name in names:
        outcome, results, table = execute(table, deals[name])
        if name in answers and (outcome, results) != answers[name]:
            return False
    return not any(told[one] < asked[other] for one in told for other in names
                   if names.index(one) > names.index(other))


def any_right(history):
    """Whether some list of names is right."""
    names = [event[1] for event in history if event[0] == "asked"]
    return any(is_right(history, list(order)) for many in range(len(names) + 1)
               for order in itertools.permutations(names, many))


class Orders(unittest.TestCase):
    def assert_judged(self, history, expected):
        before = copy.deepcopy(history)
        self.assertEqual(judge(history), expected)
        self.assertEqual(history, before)

    def test_the_example(self):
        self.assert_judged([("asked", 1, ADD), ("asked", 2, GET), ("told", 2, "done", [1])], [1, 2])

    def test_nothing(self):
        self.assert_judged([], [])

    def test_one_deal(self):
        self.assert_judged([("asked", 5, ADD), ("told", 5, "done", [1])], [5])
        self.assert_judged([("asked", 5, ADD), ("told", 5, "done", [2])], None)
        self.assert_judged([("asked", 5, ADD), ("told", 5, "failed", [])], None)
        self.assert_judged([("asked", -5, [("need", 0, 1)]), ("told", -5, "failed", [])], [-5])
        self.assertIn(judge([("asked", 5, ADD)]), ([], [5]))

    def test_deals_that_were_told_before_others_were_asked(self):
        first = [("asked", 1, ADD), ("told", 1, "done", [1])]
        second = [("asked", 2, GET)]
        self.assert_judged(first + second + [("told", 2, "done", [1])], [1, 2])
        self.assert_judged(first + second + [("told", 2, "done", [None])], None)
        late = [("asked", 2, GET), ("asked", 1, ADD), ("told", 1, "done", [1])]
        self.assert_judged(late + [("told", 2, "done", [None])], [2, 1])
        self.assert_judged(late + [("told", 2, "done", [1])], [1, 2])

    def test_deals_that_were_not_told_come_later_too(self):
        history = [("asked", 1, GET), ("told", 1, "done", [None]), ("asked", 2, ADD), ("asked", 3, GET),
                   ("told", 3, "done", [1])]
        self.assert_judged(history, [1, 2, 3])
        self.assert_judged([("asked", 1, GET), ("told", 1, "done", [1]), ("asked", 2, ADD)], None)

    def test_it_may_need_deals_that_were_not_told(self):
        history = [("asked", 1, [("put", 0, 5)]), ("asked", 2, [("add", 0, 2)]), ("asked", 3, GET),
                   ("told", 3, "done", [7]), ("asked", 4, [("put", 0, None)]), ("asked", 5, GET),
                   ("told", 5, "done", [None])]
        self.assert_judged(history, [1, 2, 3, 4, 5])

    def test_it_may_need_to_leave_some_out(self):
        history = [("asked", 1, ADD), ("asked", 2, GET), ("told", 2, "done", [None]), ("asked", 3, GET),
                   ("told", 3, "done", [None])]
        names = judge(history)
        self.assertTrue(is_right(history, names))

    def test_outcomes_and_results_may_be_anything(self):
        things = [None, 1, "done", ["done"], (), [], [1.0], [True], (1,), "1", [1, 1], [[1]], {0: 1}, {1}, Touchy(),
                  [Touchy()], b"1", [("a", 1)], float("nan")]
        for thing in things:
            self.assertIsNone(judge([("asked", 1, ADD), ("told", 1, "done", thing)]), thing)
            if not isinstance(thing, str) or thing != "done":
                self.assertIsNone(judge([("asked", 1, ADD), ("told", 1, thing, [1])]), thing)
        self.assertEqual(judge([("asked", 1, ADD), ("told", 1, "done", [1])]), [1])

    def test_true_is_not_1(self):
        for told, expected in (([True], None), ([1.0], None), (["1"], None), ([1], [1])):
            self.assert_judged([("asked", 1, ADD), ("told", 1, "done", told)], expected)
        for told, expected in (([False], None), ([0], [1])):
            self.assert_judged([("asked", 1, [("add", 0, 0)]), ("told", 1, "done", told)], expected)
        self.assert_judged([("asked", 1, GET), ("told", 1, "done", [0])], None)
        self.assert_judged([("asked", 1, GET), ("told", 1, "done", [False])], None)

    def test_scans(self):
        ops = [("put", 3, 4), ("put", 2, 1), ("scan", 0, 9)]
        for told, expected in (([(2, 1), (3, 4)], [1]), ([[2, 1], [3, 4]], None), (((2, 1), (3, 4)), None),
                               ([(2, 1)], None), ([(2, 1), (3, 4), (5, 5)], None), ([(2, True), (3, 4)], None),
                               ([(2, 1, 0), (3, 4)], None), ([(3, 4), (2, 1)], None)):
            self.assert_judged([("asked", 1, ops), ("told", 1, "done", [None, None, told])], expected)

    def test_seven_deals(self):
        history = [("asked", n, [("add", 0, 1), ("put", n, n)]) for n in range(7)]
        history += [("told", n, "done", [7 - n, None]) for n in range(7)]
        self.assert_judged(history, [6, 5, 4, 3, 2, 1, 0])
        self.assert_judged(history[:-1] + [("told", 6, "done", [2, None])], None)

    def test_seven_deals_of_which_some_were_told(self):
        history = [("asked", n, [("add", 0, 2 ** n)]) for n in range(7)]
        for total in (0b1010101, 0b1111111, 1):
            names = judge(history + [("told", 0, "done", [total])])
            self.assertTrue(is_right(history + [("told", 0, "done", [total])], names))
        for total in (0b1010100, 128, 0):
            self.assertIsNone(judge(history + [("told", 0, "done", [total])]))

    def test_the_list_is_new(self):
        history = [("asked", 1, ADD), ("told", 1, "done", [1])]
        judge(history).clear()
        self.assertEqual(judge(history), [1])


class Drawn(unittest.TestCase):
    def a_history(self, pick):
        """A record of up to 5 deals whose answers come from some order, and are perhaps changed."""
        deals = []
        for _ in range(1 + pick(5)):
            ops = []
            for _ in range(1 + pick(3)):
                key = pick(2)
                ops.append([("get", key), ("add", key, 1), ("put", key, (None, 0, 1)[pick(3)]),
                            ("need", key, (None, 0, 1)[pick(3)]), ("scan", 0, 2)][pick(5)])
            deals.append(ops)
        order = sorted(range(len(deals)), key=lambda _: pick(100))
        table, answers = {}, {}
        for name in order:
            if pick(5):
                outcome, results, table = execute(table, deals[name])
                answers[name] = (outcome, results)
        if pick(2) and answers:
            first, second = pick(len(deals)), pick(len(deals))
            if first in answers and second in answers:
                answers[first], answers[second] = answers[second], answers[first]
        history, waiting = [], list(range(len(deals)))
        running = []
        while waiting or running:
            if waiting and (not running or pick(2)):
                name = waiting.pop(pick(len(waiting)))
                history.append(("asked", name, deals[name]))
                running.append(name)
            else:
                name = running.pop(pick(len(running)))
                if name in answers and pick(6):
                    history.append(("told", name) + answers[name])
        return history

    def test_all_orders_are_tried(self):
        source = numbers(11)
        found = none = 0
        for _ in range(1200):
            history = self.a_history(lambda many: next(source) % many)
            before = copy.deepcopy(history)
            names = judge(history)
            self.assertEqual(history, before)
            if names is None:
                none += 1
                self.assertFalse(any_right(history), history)
            else:
                found += 1
                self.assertTrue(is_right(history, names), history)
        self.assertGreater(min(found, none), 200)


class Wrong(unittest.TestCase):
    def assert_bad(self, history):
        with self.assertRaises(BadHistory):
            judge(history)

    def test_what_is_no_list(self):
        for thing in (None, (), {}, "asked", 7, (("asked", 1, ADD),), {("asked", 1)}, Touchy()):
            self.assert_bad(thing)

    def test_what_is_no_event(self):
        events = [
            None, 7, "asked", [], ["asked", 1, ADD], (), ("asked",), ("asked", 1), ("asked", 1, ADD, 2), ("told", 1),
            ("told", 1, "done"), ("told", 1, "done", [1], 2), ("forgot", 1, ADD), ("forgot", 1, "done", [1]),
            (1, 2, 3), (1, 2, 3, 4), (None, 1, ADD), (Touchy(), 1, ADD), (b"asked", 1, ADD), ("", 1, ADD),
            ("asked", 1, "done", [1]), ("told", 1, ADD), {"asked": 1}, Touchy(), (("asked",), 1, ADD), ("asked ", 1, ADD),
        ]
        for event in events:
            self.assert_bad([("asked", 1, ADD), event])
            self.assert_bad([event])

    def test_names(self):
        for name in (None, True, False, "1", 1.0, (1,), [1], {}, Touchy(), b"1"):
            self.assert_bad([("asked", name, ADD)])
            self.assert_bad([("asked", 1, ADD), ("asked", 0, ADD), ("told", name, "done", [1])])
        for name in (0, -7, 10 ** 30):
            self.assertEqual(judge([("asked", name, ADD), ("told", name, "done", [1])]), [name])

    def test_a_name_that_is_asked_twice(self):
        self.assert_bad([("asked", 1, ADD), ("asked", 1, ADD)])
        self.assert_bad([("asked", 1, ADD), ("told", 1, "done", [1]), ("asked", 1, GET)])

    def test_a_name_that_is_told_twice(self):
        self.assert_bad([("asked", 1, ADD), ("told", 1, "done", [1]), ("told", 1, "done", [1])])
        self.assert_bad([("asked", 1, ADD), ("told", 1, None, None), ("told", 1, None, None)])

    def test_a_name_that_is_told_before_it_was_asked(self):
        self.assert_bad([("told", 1, "done", [1])])
        self.assert_bad([("told", 1, "done", [1]), ("asked", 1, ADD)])
        self.assert_bad([("asked", 2, ADD), ("told", 1, "done", [1])])

    def test_too_many_names(self):
        seven = [("asked", n, ADD) for n in range(7)]
        self.assertIsNotNone(judge(seven))
        self.assert_bad(seven + [("asked", 7, ADD)])
        self.assert_bad(seven + [("told", 0, "done", [99]), ("asked", 7, ADD)])

    def test_what_is_no_deal(self):
        wrong = [None, [], (), ADD * 7, (("get", 0),), [("get",)], [("get", 1000)], [("get", True)], [("put", 0)],
                 ["get"], [["get", 0]], [("add", 0, None)], [("scan", 5, 4)], [Touchy()], Touchy(), {}, "get", 5,
                 [("get", Touchy())], [(Touchy(), 0)], [("put", 0, 10 ** 18 + 1)]]
        for ops in wrong:
            self.assert_bad([("asked", 1, ops)])

    def test_a_fault_behind_a_record_without_an_order(self):
        self.assert_bad([("asked", 1, ADD), ("told", 1, "done", [5]), None])


if __name__ == "__main__":
    unittest.main()
