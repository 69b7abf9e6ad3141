"""Points 13, 14, 15 and 17: tables."""

import copy
import unittest

from wholecloth.codes import flatten, rebuild
from wholecloth.table import Table, table_of

A, B, C, D = (0, 0, 0), (0, 1, 0), (1, 0, 0), (1, 0, 1)
AWAY = ("away", ())


def prepare(table, deal, start, spans=(), changes=(), lead=1):
    return table.run(("prepare", deal, start, spans, changes, lead))


def commit(table, deal, time, *changes):
    """Commit a deal without spans."""
    assert prepare(table, deal, time, (), changes) == ("prepared",)
    assert table.run(("decide", deal, time)) == ("decided", time)


def with_values(*rows):
    """The table of all keys with versions (time, key, value)."""
    table = Table(0, 1000)
    for n, (time, key, value) in enumerate(rows):
        commit(table, (9, n, 0), time, (key, value))
    return table


def rows(*pairs):
    return ("rows", pairs)


class TableTest(unittest.TestCase):
    def assert_same(self, table, command, answer):
        """The command gives the answer and changes nothing."""
        before = table.picture()
        part = table.part
        self.assertEqual(table.run(command), answer)
        self.assertEqual(table.picture(), before)
        self.assertIs(table.part, part)


class Fields(TableTest):
    def test_a_new_table(self):
        table = Table(3, 70)
        self.assertEqual((table.low, table.high, table.signs, table.part), (3, 70, [], None))
        self.assertIs(type(table.signs), list)
        self.assertEqual((table.value(5, 100), table.versions(5), table.prepared(), table.decision(A)),
                         (None, [], [], None))

    def test_tables_share_nothing(self):
        first, second = Table(0, 1000), Table(0, 1000)
        first.run(("split", 500, 2))
        commit(first, A, 2, (5, 7))
        prepare(first, B, 2, ((5, 6),))
        self.assertEqual(second.picture(), Table(0, 1000).picture())

    def test_lists_are_new(self):
        table = with_values((2, 5, 7))
        prepare(table, B, 2, ((5, 6),))
        table.versions(5).append((9, 9))
        table.versions(6).append((9, 9))
        table.prepared().append(D)
        self.assertEqual((table.versions(5), table.versions(6), table.prepared()), ([(2, 7)], [], [B]))
        self.assertIs(type(table.versions(5)), list)

    def test_value(self):
        table = with_values((3, 5, 30), (6, 5, None), (9, 5, 90), (1, 7, 0))
        self.assertEqual([table.value(5, time) for time in range(11)],
                         [None, None, None, 30, 30, 30, None, None, None, 90, 90])
        self.assertEqual((table.value(7, 0), table.value(7, 1), table.value(7, 10 ** 9)), (None, 0, 0))
        self.assertIsNone(table.value(8, 10 ** 9))

    def test_prepared_in_ascending_order(self):
        table = Table(0, 1000)
        for deal in ((2, 0, 0), (0, 3, 1), (0, 3, 0), (1, 9, 9), (0, 10, 0)):
            prepare(table, deal, 1)
        self.assertEqual(table.prepared(), [(0, 3, 0), (0, 3, 1), (0, 10, 0), (1, 9, 9), (2, 0, 0)])

    def test_decision(self):
        table = with_values((4, 5, 7))
        table.run(("drop", B))
        self.assertEqual((table.decision((9, 0, 0)), table.decision(B), table.decision(C)), (4, 0, None))


class Read(TableTest):
    def test_rows(self):
        table = with_values((2, 9, 1), (2, 5, 7), (3, 100, 0), (4, 11, None), (2, 12, -3))
        self.assert_same(table, ("read", A, 5, 0, 1000), rows((5, 7), (9, 1), (12, -3), (100, 0)))
        self.assert_same(table, ("read", A, 5, 5, 12), rows((5, 7), (9, 1)))
        self.assert_same(table, ("read", A, 5, 6, 10), rows((9, 1)))
        self.assert_same(table, ("read", A, 5, 6, 9), rows())
        self.assert_same(table, ("read", A, 5, 999, 1000), rows())

    def test_the_time(self):
        table = with_values((3, 5, 30), (6, 5, None), (9, 5, 90))
        for time, expected in ((-1, rows()), (0, rows()), (2, rows()), (3, rows((5, 30))), (4, rows((5, 30))),
                               (5, rows((5, 30))), (6, rows()), (8, rows()), (9, rows((5, 90))),
                               (10 ** 20, rows((5, 90)))):
            self.assert_same(table, ("read", A, time, 5, 6), expected)

    def test_what_is_not_a_stretch(self):
        table = Table(0, 1000)
        for low, high in ((5, 5), (6, 5), (0, 0), (1000, 1000), (1000, 0)):
            self.assert_same(table, ("read", A, 5, low, high), AWAY)

    def test_what_is_not_within(self):
        table = Table(10, 20)
        for low, high in ((9, 20), (10, 21), (9, 21), (0, 10), (20, 30), (0, 1000), (9, 10), (20, 21), (15, 15)):
            self.assert_same(table, ("read", A, 5, low, high), AWAY)
        for low, high in ((10, 20), (10, 11), (19, 20), (14, 16)):
            self.assert_same(table, ("read", A, 5, low, high), rows())

    def test_the_signs(self):
        table = Table(0, 1000)
        table.run(("split", 600, 2))
        table.run(("split", 300, 3))
        signs = ((600, 1000, 2), (300, 600, 3))
        self.assert_same(table, ("read", A, 5, 200, 301), ("away", signs))
        self.assertIs(type(table.run(("read", A, 5, 200, 301))[1]), tuple)
        self.assertEqual(table.signs, list(signs))

    def test_a_prepared_deal_that_began_before(self):
        table = Table(0, 1000)
        prepare(table, B, 5, (), ((50, 1), (60, 2)), 7)
        for time, low, high in ((6, 50, 51), (6, 0, 1000), (6, 45, 51), (6, 60, 61), (10 ** 9, 51, 61)):
            self.assert_same(table, ("read", A, time, low, high), ("busy", B, 7))

    def test_a_start_that_is_equal(self):
        table = Table(0, 1000)
        prepare(table, B, 5, (), ((50, 1),), 7)
        self.assert_same(table, ("read", A, 5, 50, 51), rows())
        self.assert_same(table, ("read", A, 4, 50, 51), rows())
        self.assert_same(table, ("read", A, 6, 50, 51), ("busy", B, 7))

    def test_other_keys(self):
        table = Table(0, 1000)
        prepare(table, B, 5, ((70, 80),), ((50, 1), (60, 2)), 7)
        for low, high in ((0, 50), (51, 60), (61, 1000), (70, 80)):
            self.assert_same(table, ("read", A, 9, low, high), rows())

    def test_its_own_deal(self):
        table = with_values((2, 50, 5))
        prepare(table, B, 5, (), ((50, 1),), 7)
        self.assert_same(table, ("read", B, 9, 50, 51), rows((50, 5)))
        self.assert_same(table, ("read", (0, 1, 1), 9, 50, 51), ("busy", B, 7))

    def test_the_least_pair_is_named(self):
        table = Table(0, 1000)
        prepare(table, A, 8, (), ((10, 1),), 4)
        prepare(table, (2, 0, 0), 3, (), ((20, 1),), 5)
        prepare(table, (1, 5, 0), 3, (), ((30, 1),), 6)
        prepare(table, (1, 5, 1), 3, (), ((40, 1),), 7)
        prepare(table, (0, 9, 9), 9, (), ((50, 1),), 8)
        self.assert_same(table, ("read", C, 20, 0, 60), ("busy", (1, 5, 0), 6))
        self.assert_same(table, ("read", (1, 5, 0), 20, 0, 60), ("busy", (1, 5, 1), 7))
        self.assert_same(table, ("read", C, 20, 0, 30), ("busy", (2, 0, 0), 5))
        self.assert_same(table, ("read", C, 20, 0, 20), ("busy", A, 4))
        self.assert_same(table, ("read", C, 20, 50, 60), ("busy", (0, 9, 9), 8))
        self.assert_same(table, ("read", C, 9, 50, 60), rows())
        self.assert_same(table, ("read", C, 3, 0, 60), rows())

    def test_away_is_ahead_of_busy(self):
        table = Table(0, 100)
        prepare(table, B, 5, (), ((50, 1),))
        self.assert_same(table, ("read", A, 9, 50, 101), AWAY)
        self.assert_same(table, ("read", A, 9, 50, 50), AWAY)

    def test_decided_deals_are_not_in_the_way(self):
        table = Table(0, 1000)
        prepare(table, A, 1, (), ((5, 7),))
        prepare(table, B, 1, (), ((6, 8),))
        table.run(("decide", A, 3))
        table.run(("drop", B))
        self.assert_same(table, ("read", C, 9, 0, 10), rows((5, 7)))

    def test_a_deal_that_is_decided_reads(self):
        table = with_values((2, 5, 7))
        table.run(("drop", A))
        self.assert_same(table, ("read", A, 9, 0, 10), rows((5, 7)))
        self.assert_same(table, ("read", (9, 0, 0), 9, 0, 10), rows((5, 7)))


class Prepare(TableTest):
    def test_it_is_prepared(self):
        table = Table(0, 1000)
        self.assertEqual(table.run(("prepare", A, 1, ((5, 6),), ((5, 7),), 1)), ("prepared",))
        self.assertEqual((table.prepared(), table.decision(A), table.versions(5)), ([A], None, []))

    def test_again(self):
        table = Table(0, 1000)
        prepare(table, A, 1, ((5, 6),), ((5, 7),), 1)
        self.assert_same(table, ("prepare", A, 1, ((5, 6),), ((5, 7),), 1), ("prepared",))
        self.assert_same(table, ("prepare", A, 9, ((50, 60),), (), 4), ("prepared",))
        self.assert_same(table, ("prepare", A, 1, ((5, 2000),), (), 1), ("prepared",))

    def test_decided(self):
        table = with_values((4, 5, 7))
        table.run(("drop", A))
        self.assert_same(table, ("prepare", (9, 0, 0), 1, ((5, 6),), ((5, 7),), 1), ("decided", 4))
        self.assert_same(table, ("prepare", A, 1, ((5, 6),), ((5, 7),), 1), ("decided", 0))
        self.assert_same(table, ("prepare", A, 1, ((5, 2000),), (), 1), ("decided", 0))

    def test_the_edges_of_the_table(self):
        table = Table(10, 20)
        self.assertEqual(prepare(table, A, 1, ((10, 20),), ()), ("prepared",))
        self.assertEqual(prepare(table, B, 1, ((10, 11), (19, 20)), ()), ("prepared",))
        table = Table(10, 20)
        self.assertEqual(prepare(table, A, 1, (), ((10, 1), (19, 2))), ("prepared",))

    def test_away(self):
        table = Table(10, 20)
        for spans in (((9, 11),), ((19, 21),), ((10, 11), (20, 21)), ((0, 10), (12, 13)), ((0, 1000),), ((9, 10),)):
            self.assert_same(table, ("prepare", A, 1, spans, (), 1), AWAY)
            self.assert_same(table, ("prepare", A, 1, spans, ((15, 1),), 1), AWAY)
        for changes in (((9, 1),), ((20, 1),), ((10, 1), (20, 1)), ((9, 1), (10, 1)), ((999, None),)):
            self.assert_same(table, ("prepare", A, 1, (), changes, 1), AWAY)
            self.assert_same(table, ("prepare", A, 1, ((15, 16),), changes, 1), AWAY)
        self.assertEqual(table.prepared(), [])

    def test_the_signs(self):
        table = Table(0, 1000)
        table.run(("split", 500, 2))
        self.assert_same(table, ("prepare", A, 1, ((499, 501),), (), 1), ("away", ((500, 1000, 2),)))
        self.assert_same(table, ("prepare", A, 1, (), ((500, 1),), 1), ("away", ((500, 1000, 2),)))
        self.assertEqual(prepare(table, A, 1, ((499, 500),), ((499, 1),)), ("prepared",))

    def test_without_spans_and_changes(self):
        table = Table(0, 1000)
        self.assertEqual(prepare(table, A, 1, (), ()), ("prepared",))
        self.assertEqual(prepare(table, B, 1, (), ((5, 1),)), ("prepared",))
        self.assertEqual(prepare(table, C, 1, ((6, 9),), ()), ("prepared",))
        self.assertEqual(table.run(("decide", A, 7)), ("decided", 7))
        self.assertEqual(table.prepared(), [B, C])

    def test_an_empty_span_is_not_within_the_table(self):
        table = Table(0, 1000)
        self.assert_same(table, ("prepare", A, 1, ((5, 5),), (), 1), AWAY)

    def test_conflicts(self):
        held = (((10, 20), (30, 40)), ((50, 1), (60, 2)))
        for spans, changes, is_conflict in (
            ((), ((50, 9),), True), ((), ((1, 9), (60, 9)), True), ((), ((10, 9),), True), ((), ((19, 9),), True),
            ((), ((5, 9), (35, 9)), True), (((50, 51),), (), True), (((40, 51),), (), True), (((55, 61),), (), True),
            (((1, 2), (60, 70)), (), True), (((0, 1000),), (), True),
            ((), ((9, 9),), False), ((), ((20, 9),), False), ((), ((29, 9), (40, 9), (49, 9), (51, 9)), False),
            (((10, 20),), (), False), (((0, 50),), (), False), (((51, 60), (61, 1000)), (), False),
            (((0, 50),), ((0, 9),), False), ((), (), False),
        ):
            with self.subTest(spans=spans, changes=changes):
                table = Table(0, 1000)
                prepare(table, B, 5, held[0], held[1], 7)
                expected = ("busy", B, 7) if is_conflict else ("prepared",)
                self.assertEqual(prepare(table, A, 2, spans, changes, 3), expected)
                self.assertEqual(table.prepared(), [B] if is_conflict else [A, B])
                # The same the other way round: whether two deals conflict does not depend on which one came first.
                table = Table(0, 1000)
                prepare(table, A, 2, spans, changes, 3)
                expected = ("busy", A, 3) if is_conflict else ("prepared",)
                self.assertEqual(prepare(table, B, 5, held[0], held[1], 7), expected)

    def test_busy_whatever_the_starts(self):
        for start in (1, 5, 9):
            table = Table(0, 1000)
            prepare(table, B, 5, (), ((50, 1),), 7)
            self.assert_same(table, ("prepare", A, start, ((50, 51),), (), 1), ("busy", B, 7))
            self.assert_same(table, ("prepare", A, start, (), ((50, 1),), 1), ("busy", B, 7))

    def test_the_least_pair_is_named(self):
        table = Table(0, 1000)
        prepare(table, A, 8, (), ((10, 1),), 4)
        prepare(table, (2, 0, 0), 3, (), ((20, 1),), 5)
        prepare(table, (1, 5, 0), 3, ((30, 31),), (), 6)
        prepare(table, (0, 9, 9), 9, (), ((50, 1),), 8)
        everything = tuple([(key, 1) for key in range(60)])
        self.assert_same(table, ("prepare", C, 20, (), everything, 1), ("busy", (1, 5, 0), 6))
        self.assert_same(table, ("prepare", C, 20, ((0, 60),), (), 1), ("busy", (2, 0, 0), 5))
        self.assert_same(table, ("prepare", C, 20, ((0, 20), (50, 51)), (), 1), ("busy", A, 4))
        self.assert_same(table, ("prepare", C, 1, ((50, 51),), (), 1), ("busy", (0, 9, 9), 8))

    def test_stale(self):
        table = with_values((5, 50, 1))
        for start in (0, 1, 4):
            for span in ((50, 51), (0, 1000), (45, 51)):
                self.assert_same(table, ("prepare", A, start, (span,), (), 1), ("stale",))
                self.assert_same(table, ("prepare", A, start, ((1, 2), span), ((3, 4),), 1), ("stale",))

    def test_a_version_at_the_start_is_not_too_late(self):
        for start in (5, 6, 100):
            self.assertEqual(prepare(with_values((5, 50, 1)), A, start, ((50, 51),)), ("prepared",))

    def test_other_keys_are_not_stale(self):
        for span in ((0, 50), (51, 1000)):
            self.assertEqual(prepare(with_values((5, 50, 1)), A, 1, (span,), ()), ("prepared",))

    def test_changed_keys_are_not_stale(self):
        self.assertEqual(prepare(with_values((5, 50, 1)), A, 1, (), ((50, 2),)), ("prepared",))

    def test_a_removed_key_is_stale(self):
        table = with_values((5, 50, 1), (7, 50, None))
        self.assert_same(table, ("prepare", A, 6, ((50, 51),), (), 1), ("stale",))

    def test_a_version_among_elder_ones_is_stale(self):
        table = with_values((9, 50, 1), (3, 50, 2))
        self.assert_same(table, ("prepare", A, 5, ((50, 51),), (), 1), ("stale",))
        self.assertEqual(prepare(table, A, 9, ((50, 51),)), ("prepared",))

    def test_busy_is_ahead_of_stale(self):
        table = with_values((5, 50, 1))
        prepare(table, B, 9, (), ((60, 1),), 7)
        self.assert_same(table, ("prepare", A, 1, ((50, 61),), (), 1), ("busy", B, 7))
        self.assert_same(table, ("prepare", A, 1, ((50, 60),), (), 1), ("stale",))

    def test_away_is_ahead_of_busy(self):
        table = Table(0, 100)
        prepare(table, B, 9, (), ((60, 1),), 7)
        self.assert_same(table, ("prepare", A, 1, ((60, 101),), (), 1), AWAY)
        self.assert_same(table, ("prepare", A, 1, ((60, 61),), ((100, 1),), 1), AWAY)
        self.assert_same(table, ("prepare", A, 1, ((60, 61),), ((99, 1),), 1), ("busy", B, 7))

    def test_prepared_is_ahead_of_away(self):
        table = Table(0, 100)
        prepare(table, A, 9, ((60, 70),), ((60, 1),), 7)
        table.run(("split", 65, 2))
        self.assert_same(table, ("prepare", A, 9, ((60, 70),), ((60, 1),), 7), ("prepared",))

    def test_decided_is_ahead_of_prepared(self):
        table = Table(0, 100)
        prepare(table, A, 9, ((60, 70),), ((60, 1),), 7)
        table.run(("decide", A, 10))
        self.assert_same(table, ("prepare", A, 9, ((60, 70),), ((60, 1),), 7), ("decided", 10))


class Decide(TableTest):
    def test_it_is_committed(self):
        table = Table(0, 1000)
        prepare(table, A, 1, ((5, 6),), ((5, 7), (6, None), (9, -1)))
        self.assertEqual(table.run(("decide", A, 4)), ("decided", 4))
        self.assertEqual((table.prepared(), table.decision(A)), ([], 4))
        self.assertEqual([table.versions(key) for key in (5, 6, 9, 7)], [[(4, 7)], [(4, None)], [(4, -1)], []])

    def test_again(self):
        table = with_values((4, 5, 7))
        for time in (4, 9, 1, 0):
            self.assert_same(table, ("decide", (9, 0, 0), time), ("decided", 4))

    def test_a_dropped_deal(self):
        table = Table(0, 1000)
        prepare(table, A, 1, (), ((5, 7),))
        table.run(("drop", A))
        self.assert_same(table, ("decide", A, 9), ("decided", 0))

    def test_missing(self):
        table = Table(0, 1000)
        prepare(table, A, 1, (), ((5, 7),))
        self.assert_same(table, ("decide", B, 9), ("missing",))
        self.assert_same(table, ("decide", B, 0), ("missing",))
        self.assert_same(table, ("decide", (0, 0, 1), 9), ("missing",))

    def test_other_prepared_deals_stay(self):
        table = Table(0, 1000)
        prepare(table, A, 1, (), ((5, 7),))
        prepare(table, B, 1, (), ((6, 7),))
        table.run(("decide", A, 3))
        self.assertEqual((table.prepared(), table.versions(6), table.decision(B)), ([B], [], None))

    def test_times_that_fall(self):
        table = with_values((9, 5, 90), (3, 5, 30), (6, 5, 60), (12, 5, 120), (1, 5, None))
        self.assertEqual(table.versions(5), [(1, None), (3, 30), (6, 60), (9, 90), (12, 120)])
        self.assertEqual([table.value(5, time) for time in (0, 1, 2, 3, 7, 11, 12)], [None, None, None, 30, 60, 90, 120])

    def test_a_version_of_the_same_time_is_replaced(self):
        table = with_values((3, 5, 30), (6, 5, 60), (9, 5, 90), (6, 5, 61))
        self.assertEqual(table.versions(5), [(3, 30), (6, 61), (9, 90)])
        commit(table, A, 6, (5, None))
        self.assertEqual(table.versions(5), [(3, 30), (6, None), (9, 90)])
        commit(table, B, 6, (5, -62))
        self.assertEqual(table.versions(5), [(3, 30), (6, -62), (9, 90)])

    def test_the_start_does_not_matter(self):
        table = Table(0, 1000)
        prepare(table, A, 50, (), ((5, 7),))
        self.assertEqual(table.run(("decide", A, 2)), ("decided", 2))
        self.assertEqual(table.versions(5), [(2, 7)])

    def test_the_time_zero(self):
        table = Table(0, 1000)
        prepare(table, A, 1, (), ((5, 7),))
        self.assertEqual(table.run(("decide", A, 0)), ("decided", 0))
        self.assertEqual((table.decision(A), table.versions(5), table.prepared()), (0, [(0, 7)], []))


class Drop(TableTest):
    def test_a_prepared_deal(self):
        table = Table(0, 1000)
        prepare(table, A, 1, (), ((5, 7),))
        self.assertEqual(table.run(("drop", A)), ("decided", 0))
        self.assertEqual((table.prepared(), table.decision(A), table.versions(5)), ([], 0, []))

    def test_a_deal_that_was_never_prepared(self):
        table = Table(0, 1000)
        prepare(table, B, 1, (), ((5, 7),))
        self.assertEqual(table.run(("drop", A)), ("decided", 0))
        self.assertEqual((table.prepared(), table.decision(A), table.decision(B)), ([B], 0, None))

    def test_twice(self):
        table = Table(0, 1000)
        table.run(("drop", A))
        self.assert_same(table, ("drop", A), ("decided", 0))

    def test_a_committed_deal(self):
        table = with_values((4, 5, 7))
        self.assert_same(table, ("drop", (9, 0, 0)), ("decided", 4))


class Finish(TableTest):
    def test_a_prepared_deal(self):
        table = Table(0, 1000)
        prepare(table, A, 1, (), ((5, 7),))
        self.assertEqual(table.run(("finish", A, 4)), ("decided", 4))
        self.assertEqual((table.prepared(), table.decision(A), table.versions(5)), ([], 4, [(4, 7)]))

    def test_missing(self):
        self.assert_same(Table(0, 1000), ("finish", A, 4), ("missing",))

    def test_the_time_zero(self):
        table = Table(0, 1000)
        prepare(table, A, 1, (), ((5, 7),))
        self.assertEqual(table.run(("finish", A, 0)), ("decided", 0))
        self.assertEqual((table.prepared(), table.decision(A), table.versions(5)), ([], 0, []))
        self.assertEqual(table.run(("finish", B, 0)), ("decided", 0))
        self.assertEqual(table.decision(B), 0)

    def test_decided(self):
        table = with_values((4, 5, 7))
        table.run(("drop", A))
        for time in (0, 4, 9):
            self.assert_same(table, ("finish", (9, 0, 0), time), ("decided", 4))
            self.assert_same(table, ("finish", A, time), ("decided", 0))


class Split(TableTest):
    def test_an_empty_table(self):
        table = Table(0, 1000)
        self.assertEqual(table.run(("split", 400, 2)), ("split", 400, 2))
        self.assertEqual((table.low, table.high, table.signs), (0, 400, [(400, 1000, 2)]))
        part = table.part
        self.assertIsInstance(part, Table)
        self.assertEqual((part.low, part.high, part.signs, part.part), (400, 1000, [], None))

    def test_the_edges(self):
        for key in (10, 20, 9, 21, 0, 1000, -1):
            self.assert_same(Table(10, 20), ("split", key, 2), AWAY)
        for key in (11, 19):
            table = Table(10, 20)
            self.assertEqual(table.run(("split", key, 2)), ("split", key, 2))
            self.assertEqual((table.low, table.high, table.part.low, table.part.high), (10, key, key, 20))
            self.assertEqual(table.signs, [(key, 20, 2)])
        self.assert_same(Table(10, 11), ("split", 10, 2), AWAY)
        self.assert_same(Table(10, 11), ("split", 11, 2), AWAY)

    def test_away_with_signs(self):
        table = Table(0, 1000)
        table.run(("split", 400, 2))
        self.assert_same(table, ("split", 400, 3), ("away", ((400, 1000, 2),)))
        self.assert_same(table, ("split", 700, 3), ("away", ((400, 1000, 2),)))

    def test_the_last_split(self):
        table = Table(0, 1000)
        table.run(("split", 400, 2))
        first = table.part
        table.run(("split", 100, 5))
        self.assertEqual((table.low, table.high, table.signs), (0, 100, [(400, 1000, 2), (100, 400, 5)]))
        self.assertEqual((table.part.low, table.part.high, table.part.signs), (100, 400, []))
        self.assertEqual((first.low, first.high, first.signs), (400, 1000, []))
        first.run(("split", 600, 7))
        self.assertEqual((first.signs, first.part.signs, table.signs),
                         ([(600, 1000, 7)], [], [(400, 1000, 2), (100, 400, 5)]))

    def test_versions_and_decisions(self):
        table = with_values((2, 399, 1), (3, 400, 2), (4, 400, None), (5, 0, 3), (6, 999, 4))
        table.run(("drop", A))
        table.run(("split", 400, 2))
        self.assertEqual([table.versions(key) for key in (0, 399, 400, 999)], [[(5, 3)], [(2, 1)], [], []])
        self.assertEqual([table.part.versions(key) for key in (0, 399, 400, 999)],
                         [[], [], [(3, 2), (4, None)], [(6, 4)]])
        for half in (table, table.part):
            self.assertEqual([half.decision((9, n, 0)) for n in range(5)], [2, 3, 4, 5, 6])
            self.assertEqual(half.decision(A), 0)
            self.assertIsNone(half.decision(B))

    def test_prepared_on_both_sides(self):
        table = Table(0, 1000)
        spans, changes = ((390, 410), (10, 20), (400, 500), (0, 1000)), ((5, 1), (399, 2), (400, 3), (900, None))
        prepare(table, A, 7, spans, changes, 3)
        table.run(("split", 400, 2))
        self.assertEqual((table.prepared(), table.part.prepared()), ([A], [A]))
        self.assertEqual(table.picture()[4], ((A, 7, ((390, 400), (10, 20), (0, 400)), ((5, 1), (399, 2)), 3),))
        self.assertEqual(table.part.picture()[4],
                         ((A, 7, ((400, 410), (400, 500), (400, 1000)), ((400, 3), (900, None)), 3),))
        self.assertEqual(table.run(("decide", A, 9)), ("decided", 9))
        self.assertEqual([table.versions(key) for key in (5, 399, 400, 900)], [[(9, 1)], [(9, 2)], [], []])
        self.assertEqual((table.part.prepared(), table.part.decision(A)), ([A], None))
        self.assertEqual(table.part.run(("finish", A, 9)), ("decided", 9))
        self.assertEqual([table.part.versions(key) for key in (5, 399, 400, 900)], [[], [], [(9, 3)], [(9, None)]])

    def test_equal_parts_of_spans_are_kept(self):
        table = Table(0, 1000)
        prepare(table, A, 7, ((390, 410), (390, 420), (395, 410)), ())
        table.run(("split", 400, 2))
        self.assertEqual(table.picture()[4], ((A, 7, ((390, 400), (390, 400), (395, 400)), (), 1),))
        self.assertEqual(table.part.picture()[4], ((A, 7, ((400, 410), (400, 420), (400, 410)), (), 1),))

    def test_prepared_on_one_side(self):
        for spans, changes, below, above in (
            (((10, 20),), (), [A], []), ((), ((10, 1),), [A], []), (((10, 400),), ((399, 1),), [A], []),
            (((400, 401),), (), [A], [A]), ((), ((400, 1),), [A], [A]), ((), (), [A], []),
            (((10, 20),), ((400, 1),), [A], [A]), (((390, 401),), ((10, 1),), [A], [A]),
        ):
            with self.subTest(spans=spans, changes=changes):
                table = Table(0, 1000)
                prepare(table, A, 7, spans, changes, 3)
                table.run(("split", 400, 2))
                self.assertEqual((table.prepared(), table.part.prepared()), (below, above))

    def test_what_stays_prepared_without_anything(self):
        table = Table(0, 1000)
        prepare(table, A, 7, ((500, 600),), ((700, 1),), 3)
        table.run(("split", 400, 2))
        self.assertEqual(table.picture()[4], ((A, 7, (), (), 3),))
        self.assertEqual(table.run(("read", B, 9, 0, 400)), rows())
        self.assertEqual(table.run(("decide", A, 9)), ("decided", 9))
        self.assertEqual(table.picture()[3], ())

    def test_what_is_in_the_way_on_each_side(self):
        table = Table(0, 1000)
        prepare(table, A, 3, ((390, 410),), ((350, 1), (450, 1)), 6)
        table.run(("split", 400, 2))
        for half, key, other in ((table, 350, 399), (table.part, 450, 400)):
            self.assertEqual(half.run(("read", B, 9, key, key + 1)), ("busy", A, 6))
            self.assertEqual(prepare(half, B, 9, (), ((other, 1),)), ("busy", A, 6))

    def test_the_halves_share_nothing(self):
        table = with_values((2, 100, 1), (2, 500, 1))
        prepare(table, A, 3, ((300, 600),), ((350, 1), (450, 1)), 6)
        table.run(("split", 400, 2))
        part = table.part
        before = part.picture()
        table.run(("decide", A, 5))
        table.run(("drop", B))
        table.run(("split", 50, 3))
        self.assertEqual(part.picture(), before)
        before = table.picture()
        part.run(("drop", A))
        part.run(("drop", C))
        part.run(("split", 450, 4))
        self.assertEqual(table.picture(), before)


class Others(TableTest):
    def test_none(self):
        self.assert_same(with_values((2, 5, 7)), ("none",), ("none",))

    def test_unknown(self):
        table = with_values((2, 5, 7))
        prepare(table, A, 3, ((1, 2),), ((3, 4),))
        right = [
            ("read", B, 5, 0, 10), ("prepare", B, 1, ((5, 6),), ((5, 7),), 1), ("decide", A, 2), ("drop", A),
            ("finish", A, 2), ("split", 500, 2), ("none",),
        ]
        for command in right:
            self.assert_same(table, command + (0,), ("unknown",))
            self.assert_same(table, command + (0, 0), ("unknown",))
            if len(command) > 1:
                self.assert_same(table, command[:-1], ("unknown",))
                self.assert_same(table, command[:1], ("unknown",))
        for command in (("next",), ("members", (0, 1)), ("time", 1), ("unknown",), ("table",), (0,), (None,), (True,),
                        (0, A, 2), ((),), (("drop",), A), ("rows", ()), ("decided", 2), ("prepared",), ("entry", A)):
            self.assert_same(table, command, ("unknown",))

    def test_each_answer_is_a_tuple(self):
        table = with_values((2, 5, 7))
        for command in (("read", B, 5, 0, 10), ("read", B, 5, 5, 5), ("prepare", B, 3, ((5, 6),), ((5, 7),), 1),
                        ("prepare", C, 3, ((5, 6),), ((5, 7),), 1), ("prepare", D, 1, ((5, 6),), (), 1), ("decide", B, 2),
                        ("drop", A), ("finish", A, 2), ("split", 500, 2), ("none",), ("unknown",)):
            answer = table.run(command)
            self.assertIs(type(answer), tuple)
            self.assertEqual(rebuild(flatten(answer)), answer)

    def test_commands_stay_as_they_were(self):
        command = ("prepare", A, 1, ((5, 6),), ((5, 7),), 1)
        before = copy.deepcopy(command)
        Table(0, 1000).run(command)
        self.assertEqual(command, before)


class Pictures(TableTest):
    def a_table(self):
        table = with_values((9, 50, 1), (3, 50, 2), (4, 7, None), (6, 600, 3))
        table.run(("drop", C))
        prepare(table, D, 20, ((5, 9), (1, 2)), ((100, 7), (200, None)), 4)
        prepare(table, A, 30, (), ((110, 7), (800, 1)), 2)
        table.run(("split", 700, 3))
        table.run(("split", 500, 2))
        return table

    def test_a_new_table(self):
        self.assertEqual(Table(3, 70).picture(), ("table", 3, 70, (), (), (), ()))

    def test_all_of_it(self):
        table = self.a_table()
        self.assertEqual(table.picture(), (
            "table", 0, 500,
            ((7, ((4, None),)), (50, ((3, 2), (9, 1)))),
            ((A, 30, (), ((110, 7),), 2), (D, 20, ((5, 9), (1, 2)), ((100, 7), (200, None)), 4)),
            ((C, 0), ((9, 0, 0), 9), ((9, 1, 0), 3), ((9, 2, 0), 4), ((9, 3, 0), 6)),
            ((700, 1000, 3), (500, 700, 2)),
        ))
        self.assertEqual(table.part.picture(), (
            "table", 500, 700, ((600, ((6, 3),)),), (),
            ((C, 0), ((9, 0, 0), 9), ((9, 1, 0), 3), ((9, 2, 0), 4), ((9, 3, 0), 6)), (),
        ))

    def test_it_is_a_record(self):
        picture = self.a_table().picture()
        self.assertEqual(repr(rebuild(flatten(picture))), repr(picture))

    def test_equal_states_have_equal_pictures(self):
        first, second = Table(0, 1000), Table(0, 1000)
        for time, key in ((2, 5), (7, 5), (4, 600), (3, 9)):
            commit(first, (key, time, 0), time, (key, time))
        for time, key in ((7, 5), (3, 9), (4, 600), (2, 5)):
            commit(second, (key, time, 0), time, (key, time))
        for table, deals in ((first, (A, B, C)), (second, (C, A, B))):
            for deal in deals:
                prepare(table, deal, 9, (), ((100 + deal[0] * 10 + deal[1], 1),))
        self.assertEqual(first.picture(), second.picture())

    def test_a_key_whose_versions_went_away_is_not_listed(self):
        table = with_values((2, 5, 7), (2, 500, 7))
        table.run(("split", 100, 2))
        self.assertEqual(table.picture()[3], ((5, ((2, 7),)),))

    def test_table_of(self):
        picture = self.a_table().picture()
        table = table_of(picture)
        self.assertIsInstance(table, Table)
        self.assertEqual(table.picture(), picture)
        self.assertEqual((table.low, table.high, table.signs, table.part),
                         (0, 500, [(700, 1000, 3), (500, 700, 2)], None))
        self.assertIs(type(table.signs), list)
        self.assertEqual((table.prepared(), table.versions(50), table.decision(C), table.value(50, 8)),
                         ([A, D], [(3, 2), (9, 1)], 0, 2))
        self.assertEqual(table_of(rebuild(flatten(picture))).picture(), picture)

    def test_it_shares_nothing(self):
        commands = [
            ("decide", A, 40), ("drop", B), ("drop", D), ("prepare", (5, 5, 5), 50, ((50, 51),), ((50, 9),), 1),
            ("finish", (5, 5, 5), 60), ("split", 40, 8),
        ]
        first = self.a_table()
        picture = first.picture()
        second, third = table_of(picture), table_of(picture)
        for command in commands:
            first.run(command)
        self.assertEqual((second.picture(), third.picture()), (picture, picture))
        behind = first.picture()
        for command in commands:
            second.run(command)
        self.assertEqual((first.picture(), second.picture(), third.picture()), (behind, behind, picture))

    def test_a_picture_stays_as_it_was(self):
        table = self.a_table()
        picture = table.picture()
        kept = copy.deepcopy(picture)
        table.run(("decide", A, 40))
        table_of(picture).run(("decide", D, 40))
        self.assertEqual(picture, kept)


if __name__ == "__main__":
    unittest.main()
