"""Points 2, 5 and 6: what deals do, their spans and their changes."""

import copy
import unittest

from helpers import numbers
from wholecloth.meaning import changes, check_deal, execute, replay, spans

TOP = 10 ** 18


def some_operation(source):
    """An operation on few keys, so that operations meet each other."""
    kind, key, value = next(source) % 6, next(source) % 5, next(source) % 4
    if kind == 0:
        return ("get", key)
    if kind == 1:
        return ("put", key, [None, 1, 2, TOP][value])
    if kind == 2:
        return ("add", key, [1, -1, 2, TOP][value])
    if kind == 3:
        return ("need", key, [None, 1, 2, 3][value])
    return ("scan", min(key, value), max(key, value))


def some_cases(many):
    source = numbers(many)
    cases = []
    for _ in range(many):
        table = {}
        for key in range(5):
            if next(source) % 2:
                table[key] = next(source) % 4
        cases.append((table, [some_operation(source) for _ in range(1 + next(source) % 6)]))
    return cases


def is_failing(table, op):
    """A second, plainer reading of point 5."""
    if op[0] == "need":
        return table[op[1]] != op[2] if op[1] in table else op[2] is not None
    if op[0] == "add":
        return not -TOP <= (table[op[1]] if op[1] in table else 0) + op[2] <= TOP
    return False


def model(table, ops):
    now, results = dict(table), []
    for op in ops:
        if is_failing(now, op):
            return "failed", results, table
        gives = None
        if op[0] == "get" and op[1] in now:
            gives = now[op[1]]
        if op[0] == "scan":
            gives = [(key, now[key]) for key in range(op[1], op[2]) if key in now]
        if op[0] == "add":
            gives = now[op[1]] = (now[op[1]] if op[1] in now else 0) + op[2]
        if op[0] == "put":
            now[op[1]] = op[2]
            now = {key: now[key] for key in now if now[key] is not None}
        results.append(gives)
    return "done", results, now


class Execute(unittest.TestCase):
    def test_the_examples(self):
        self.assertEqual(
            execute({5: 7}, [("get", 5), ("add", 5, 3), ("scan", 0, 10)]), ("done", [7, 10, [(5, 10)]], {5: 10}))
        self.assertEqual(execute({5: 7}, [("put", 6, 1), ("need", 5, 8)]), ("failed", [None], {5: 7}))

    def test_get(self):
        self.assertEqual(execute({0: 1, 999: 0}, [("get", 0), ("get", 999), ("get", 5)]),
                         ("done", [1, 0, None], {0: 1, 999: 0}))

    def test_put(self):
        self.assertEqual(execute({}, [("put", 0, TOP), ("put", 999, -TOP), ("put", 3, 0)]),
                         ("done", [None, None, None], {0: TOP, 999: -TOP, 3: 0}))
        self.assertEqual(execute({3: 1}, [("put", 3, 2)]), ("done", [None], {3: 2}))

    def test_put_of_none_removes(self):
        self.assertEqual(execute({3: 1, 4: 2}, [("put", 3, None), ("get", 3)]), ("done", [None, None], {4: 2}))
        self.assertEqual(execute({4: 2}, [("put", 3, None), ("scan", 0, 10)]), ("done", [None, [(4, 2)]], {4: 2}))
        self.assertEqual(execute({3: 1}, [("put", 3, None), ("add", 3, 5)]), ("done", [None, 5], {3: 5}))

    def test_add(self):
        self.assertEqual(execute({3: 1}, [("add", 3, 5), ("add", 4, -2), ("add", 3, 0)]),
                         ("done", [6, -2, 6], {3: 6, 4: -2}))
        self.assertEqual(execute({}, [("add", 3, 0)]), ("done", [0], {3: 0}))

    def test_add_up_to_the_bounds(self):
        self.assertEqual(execute({3: TOP - 1}, [("add", 3, 1)]), ("done", [TOP], {3: TOP}))
        self.assertEqual(execute({3: 1 - TOP}, [("add", 3, -1)]), ("done", [-TOP], {3: -TOP}))
        self.assertEqual(execute({3: TOP}, [("add", 3, -TOP)]), ("done", [0], {3: 0}))
        self.assertEqual(execute({}, [("add", 3, TOP), ("add", 4, -TOP)]), ("done", [TOP, -TOP], {3: TOP, 4: -TOP}))

    def test_add_beyond_the_bounds_fails(self):
        self.assertEqual(execute({3: TOP}, [("add", 3, 1)]), ("failed", [], {3: TOP}))
        self.assertEqual(execute({3: -TOP}, [("add", 3, -1)]), ("failed", [], {3: -TOP}))
        self.assertEqual(execute({3: 1}, [("get", 3), ("add", 4, 1), ("add", 3, TOP), ("get", 3)]),
                         ("failed", [1, 1], {3: 1}))
        self.assertEqual(execute({}, [("add", 1, TOP), ("add", 1, TOP), ("add", 1, -TOP)]), ("failed", [TOP], {}))

    def test_need(self):
        self.assertEqual(execute({3: 1}, [("need", 3, 1), ("need", 4, None)]), ("done", [None, None], {3: 1}))
        self.assertEqual(execute({3: 1}, [("need", 3, 2)]), ("failed", [], {3: 1}))
        self.assertEqual(execute({3: 1}, [("need", 3, None)]), ("failed", [], {3: 1}))
        self.assertEqual(execute({3: 0}, [("need", 3, None)]), ("failed", [], {3: 0}))
        self.assertEqual(execute({3: 1}, [("need", 4, 0)]), ("failed", [], {3: 1}))
        self.assertEqual(execute({3: 1}, [("put", 3, 2), ("need", 3, 2)]), ("done", [None, None], {3: 2}))

    def test_scan(self):
        table = {999: 9, 7: 1, 0: 5, 8: 0}
        self.assertEqual(execute(table, [("scan", 0, 1000)])[1], [[(0, 5), (7, 1), (8, 0), (999, 9)]])
        self.assertEqual(execute(table, [("scan", 7, 8), ("scan", 8, 999), ("scan", 999, 1000), ("scan", 1, 7)])[1],
                         [[(7, 1)], [(8, 0)], [(999, 9)], []])
        self.assertEqual(execute(table, [("scan", 7, 7), ("scan", 0, 0), ("scan", 1000, 1000)])[1], [[], [], []])
        self.assertEqual(execute({}, [("scan", 0, 1000)]), ("done", [[]], {}))

    def test_scan_sees_what_stood_before_it_and_nothing_behind_it(self):
        ops = [("scan", 0, 9), ("put", 4, 1), ("put", 2, None), ("scan", 0, 9), ("put", 5, 5)]
        self.assertEqual(execute({2: 8}, ops), ("done", [[(2, 8)], None, None, [(4, 1)], None], {4: 1, 5: 5}))

    def test_kinds_of_the_results(self):
        answer = execute({5: 7}, [("scan", 0, 10), ("get", 5), ("put", 5, 1)])
        self.assertIs(type(answer), tuple)
        self.assertEqual([type(part) for part in answer], [str, list, dict])
        self.assertIs(type(answer[1][0]), list)
        self.assertIs(type(answer[1][0][0]), tuple)

    def test_a_deal_that_fails_in_its_middle_changes_nothing(self):
        ops = [("put", 1, 5), ("put", 2, None), ("add", 3, 1), ("need", 1, 4), ("put", 9, 9)]
        self.assertEqual(execute({1: 1, 2: 2}, ops), ("failed", [None, None, 1], {1: 1, 2: 2}))

    def test_a_failed_deal_answers_with_the_operations_before_the_failing_one(self):
        for at in range(6):
            ops = [("add", 1, 1)] * at + [("need", 2, 0)] + [("put", 2, 0)] * (5 - at)
            self.assertEqual(execute({}, ops), ("failed", list(range(1, at + 1)), {}))

    def test_against_the_model(self):
        outcomes = []
        for table, ops in some_cases(3000):
            self.assertIsNone(check_deal(ops))
            self.assertEqual(execute(table, ops), model(table, ops))
            outcomes.append(execute(table, ops)[0])
        self.assertGreater(outcomes.count("done"), 500)
        self.assertGreater(outcomes.count("failed"), 500)

    def test_what_was_passed_stays_as_it_was(self):
        for ops in ([("put", 5, 1), ("add", 6, 1), ("put", 7, None)], [("put", 5, 1), ("need", 5, 2)]):
            table = {5: 7, 7: 1}
            before = copy.deepcopy(ops)
            execute(table, ops)
            self.assertEqual((table, ops), ({5: 7, 7: 1}, before))

    def test_the_dictionary_that_is_returned_is_new(self):
        for ops in ([("get", 5)], [("put", 5, 1)], [("need", 5, 2)], [("put", 5, 1), ("need", 5, 2)]):
            table = {5: 7}
            after = execute(table, ops)[2]
            kept = dict(after)
            table[5] = 8
            table[6] = 1
            self.assertEqual(after, kept)
            after[9] = 1
            self.assertNotIn(9, table)

    def test_the_lists_that_are_returned_are_new(self):
        ops = [("scan", 0, 9), ("scan", 0, 9)]
        first, second = execute({5: 7}, ops)[1], execute({5: 7}, ops)[1]
        first[0].append(1)
        self.assertEqual(first[1], [(5, 7)])
        self.assertEqual(second, [[(5, 7)], [(5, 7)]])


class Replay(unittest.TestCase):
    def test_nothing(self):
        self.assertEqual(replay([]), ([], {}))

    def test_one_after_the_other(self):
        deals = [[("put", 1, 2), ("get", 1)], [("add", 1, 3)], [("put", 1, 9), ("need", 1, 5)], [("scan", 0, 5)]]
        self.assertEqual(
            replay(deals),
            ([("done", [None, 2]), ("done", [5]), ("failed", [None]), ("done", [[(1, 5)]])], {1: 5}))

    def test_kinds(self):
        answer = replay([[("get", 1)]])
        self.assertIs(type(answer), tuple)
        self.assertEqual([type(part) for part in answer], [list, dict])
        self.assertIs(type(answer[0][0]), tuple)
        self.assertEqual([type(part) for part in answer[0][0]], [str, list])

    def test_it_begins_empty_each_time(self):
        deals = [[("add", 1, 1)]]
        before = copy.deepcopy(deals)
        first = replay(deals)
        self.assertEqual(replay(deals), ([("done", [1])], {1: 1}))
        first[0].append(0)
        first[1][2] = 2
        self.assertEqual(replay(deals), ([("done", [1])], {1: 1}))
        self.assertEqual(deals, before)

    def test_the_same_as_executing(self):
        deals = [ops for _, ops in some_cases(300)]
        table, answers = {}, []
        for ops in deals:
            outcome, results, table = model(table, ops)
            answers.append((outcome, results))
        self.assertEqual(replay(deals), (answers, table))


class Spans(unittest.TestCase):
    def test_the_example(self):
        self.assertEqual(spans([("get", 4), ("scan", 2, 9), ("get", 4), ("put", 1, 0)]), [(4, 5), (2, 9)])

    def test_each_word(self):
        self.assertEqual(spans([("get", 0)]), [(0, 1)])
        self.assertEqual(spans([("add", 999, 5)]), [(999, 1000)])
        self.assertEqual(spans([("need", 7, 5)]), [(7, 8)])
        self.assertEqual(spans([("need", 7, None)]), [(7, 8)])
        self.assertEqual(spans([("scan", 0, 1000)]), [(0, 1000)])
        self.assertEqual(spans([("put", 7, 5)]), [])
        self.assertEqual(spans([("put", 7, None)]), [])

    def test_empty_scans_have_none(self):
        self.assertEqual(spans([("scan", 0, 0), ("scan", 7, 7), ("scan", 1000, 1000)]), [])
        self.assertEqual(spans([("scan", 7, 8)]), [(7, 8)])

    def test_each_one_once_in_the_order_of_the_operations(self):
        self.assertEqual(spans([("get", 9), ("add", 4, 1), ("scan", 9, 10), ("need", 4, 1), ("get", 1)]),
                         [(9, 10), (4, 5), (1, 2)])
        self.assertEqual(spans([("scan", 4, 5), ("scan", 4, 6), ("get", 4), ("get", 5)]), [(4, 5), (4, 6), (5, 6)])

    def test_operations_behind_a_failing_one_count(self):
        self.assertEqual(spans([("need", 1, 5), ("get", 2)]), [(1, 2), (2, 3)])

    def test_kinds(self):
        ops = [("get", 4), ("scan", 2, 9)]
        before = copy.deepcopy(ops)
        found = spans(ops)
        self.assertIs(type(found), list)
        self.assertEqual([type(span) for span in found], [tuple, tuple])
        found.append(1)
        self.assertEqual(spans(ops), [(4, 5), (2, 9)])
        self.assertEqual(ops, before)


class Changes(unittest.TestCase):
    def test_put_and_add(self):
        self.assertEqual(changes({5: 1}, [("add", 5, 2), ("put", 3, 9), ("add", 4, 1)]), [(3, 9), (4, 1), (5, 3)])

    def test_in_ascending_order_of_the_keys(self):
        ops = [("put", 512, 1), ("put", 999, 2), ("add", 8, 3), ("put", 64, 4), ("put", 1, 5), ("add", 16, 6)]
        self.assertEqual(changes({}, ops), [(1, 5), (8, 3), (16, 6), (64, 4), (512, 1), (999, 2)])

    def test_none_for_what_only_reads(self):
        self.assertEqual(changes({5: 1}, [("get", 5), ("need", 5, 1), ("scan", 0, 9)]), [])

    def test_the_last_value(self):
        self.assertEqual(changes({}, [("put", 1, 5), ("add", 1, 2), ("put", 2, 1), ("put", 2, 3)]), [(1, 7), (2, 3)])

    def test_removed_keys(self):
        self.assertEqual(changes({1: 1}, [("put", 1, None)]), [(1, None)])
        self.assertEqual(changes({}, [("put", 1, None)]), [(1, None)])
        self.assertEqual(changes({}, [("put", 1, 4), ("put", 1, None)]), [(1, None)])
        self.assertEqual(changes({1: 1}, [("put", 1, None), ("put", 1, 4)]), [(1, 4)])
        self.assertEqual(changes({1: 1}, [("put", 1, None), ("add", 1, 4)]), [(1, 4)])

    def test_a_value_that_did_not_change_is_listed(self):
        self.assertEqual(changes({1: 4, 2: 5}, [("put", 1, 4), ("add", 2, 0), ("add", 3, 0)]), [(1, 4), (2, 5), (3, 0)])

    def test_the_edges(self):
        self.assertEqual(changes({}, [("put", 999, TOP), ("put", 0, -TOP)]), [(0, -TOP), (999, TOP)])
        self.assertEqual(changes({0: TOP - 1}, [("add", 0, 1)]), [(0, TOP)])

    def test_none_for_a_deal_that_fails(self):
        self.assertEqual(changes({1: 1}, [("put", 1, 2), ("need", 1, 1)]), [])
        self.assertEqual(changes({1: TOP}, [("put", 2, 2), ("add", 1, 1)]), [])
        self.assertEqual(changes({}, [("need", 1, 1), ("put", 1, 2)]), [])

    def test_they_lead_to_the_dictionary_behind_the_deal(self):
        for table, ops in some_cases(2000):
            outcome, _, after = model(table, ops)
            expected = []
            if outcome == "done":
                keys = sorted({op[1] for op in ops if op[0] in ("put", "add")})
                expected = [(key, after[key] if key in after else None) for key in keys]
            self.assertEqual(changes(table, ops), expected)

    def test_kinds_and_arguments(self):
        table, ops = {5: 7}, [("put", 5, None), ("add", 6, 1)]
        found = changes(table, ops)
        self.assertIs(type(found), list)
        self.assertEqual([type(pair) for pair in found], [tuple, tuple])
        found.append(1)
        self.assertEqual(changes(table, ops), [(5, None), (6, 1)])
        self.assertEqual((table, ops), ({5: 7}, [("put", 5, None), ("add", 6, 1)]))


if __name__ == "__main__":
    unittest.main()
