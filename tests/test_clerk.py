"""Points 29 to 32 and 37: clerks, step by step."""

import copy
import unittest

from wholecloth.clerk import Clerk

D = (7, 0, 0)
OTHER, THIRD = (3, 1, 4), (2, 0, 0)
SIGN, NEXT_SIGN = (500, 1000, 2), (300, 500, 4)
READ = [("get", 5)]
WRITE = [("put", 5, 8), ("get", 6)]
# A deal of three groups behind the two signs; the least changed key is in group 4.
WIDE = [("get", 10), ("put", 600, 1), ("add", 400, 2), ("scan", 250, 510), ("get", 400)]


class ClerkTest(unittest.TestCase):
    def clerk(self, *deals, machines=3, places=()):
        clerk = Clerk(7, machines, list(deals))
        clerk.places.extend(places)
        return clerk

    def assert_calls(self, calls, *expected):
        """The calls are triples (token, group, command) at machine 0, or at the machine that stands before them."""
        wanted = [(0,) + row if len(row) == 3 else row for row in expected]
        self.assertEqual(calls, [(row[0], ("call",) + row[1:]) for row in wanted])

    def tell(self, clerk, token, *answer):
        return clerk.hear(("told", token, answer))

    def lost(self, clerk, token, machine):
        self.assertEqual(clerk.hear(("lost", token, machine)), [])

    def to_read(self, clerk, start=5):
        """Begin an attempt and tell it its start; the calls of step 2."""
        first = clerk.act()
        self.assertEqual([letter[3] for _, letter in first], [("next",)])
        return self.tell(clerk, first[0][1][1], "time", start)

    def to_prepare(self, clerk, rows=(), start=5):
        """Answer all reads; the calls of step 4."""
        calls = self.to_read(clerk, start)
        for _, letter in calls:
            low, high = letter[3][3:]
            found = tuple(row for row in rows if low <= row[0] < high)
            calls = self.tell(clerk, letter[1], "rows", found)
        return calls

    def to_time(self, clerk, rows=(), start=5):
        calls = self.to_prepare(clerk, rows, start)
        for _, letter in calls:
            calls = self.tell(clerk, letter[1], "prepared")
        return calls

    def to_decide(self, clerk, rows=(), time=9):
        calls = self.to_time(clerk, rows)
        return self.tell(clerk, calls[0][1][1], "time", time)


class Fields(ClerkTest):
    def test_a_new_clerk(self):
        deals = [READ, WRITE]
        clerk = Clerk(7, 3, deals)
        self.assertEqual((clerk.client, clerk.deals, clerk.number, clerk.busy), (7, [READ, WRITE], 0, False))
        self.assertEqual(clerk.places, [(0, 1000, 1)])
        self.assertEqual((clerk.events(), clerk.idle()), ([], False))
        self.assertTrue(Clerk(7, 3, []).idle())

    def test_the_deals_are_its_own(self):
        deals = [list(READ), list(WRITE)]
        before = copy.deepcopy(deals)
        clerk = Clerk(7, 3, deals)
        self.to_time(clerk)
        clerk.deals.append([("get", 1)])
        self.assertEqual(deals, before)
        other = Clerk(7, 3, deals)
        deals[0].append(("get", 7))
        deals.append([("get", 1)])
        self.assertEqual(other.deals, before)

    def test_clerks_share_nothing(self):
        first, second = Clerk(0, 3, [READ]), Clerk(1, 3, [READ])
        first.places.append(SIGN)
        first.act()
        self.assertEqual((second.places, second.busy, second.events()), ([(0, 1000, 1)], False, []))

    def test_lists_are_new(self):
        clerk = self.clerk(READ)
        clerk.act().append("more")
        clerk.events().append("more")
        self.assertEqual((len(clerk.act()), clerk.events()), (1, []))


class Reading(ClerkTest):
    def test_it_asks_for_the_start(self):
        clerk = self.clerk(READ)
        self.assert_calls(clerk.act(), (1, 0, ("next",)))
        self.assertEqual((clerk.busy, clerk.number, clerk.idle()), (True, 0, False))
        self.assertEqual(clerk.events(), [("asked", 7, 0)])
        self.assertEqual(clerk.events(), [])

    def test_it_reads_the_spans(self):
        clerk = self.clerk([("get", 5), ("scan", 2, 9), ("get", 5), ("need", 3, None), ("put", 4, 1), ("scan", 8, 8)])
        self.assert_calls(self.to_read(clerk), (2, 1, ("read", D, 5, 5, 6)), (3, 1, ("read", D, 5, 2, 9)),
                          (4, 1, ("read", D, 5, 3, 4)))

    def test_it_divides_them_by_the_places(self):
        clerk = self.clerk(WIDE, places=(SIGN, NEXT_SIGN))
        self.assert_calls(
            self.to_read(clerk), (2, 1, ("read", D, 5, 10, 11)), (3, 4, ("read", D, 5, 400, 401)),
            (4, 1, ("read", D, 5, 250, 300)), (5, 4, ("read", D, 5, 300, 500)), (6, 2, ("read", D, 5, 500, 510)))

    def test_a_deal_that_only_reads(self):
        clerk = self.clerk([("get", 5), ("scan", 2, 9)], WRITE)
        calls = self.to_read(clerk)
        self.assertEqual(self.tell(clerk, 2, "rows", ((5, 70),)), [])
        self.assertTrue(clerk.busy)
        self.assertEqual(self.tell(clerk, 3, "rows", ((2, 1), (5, 70))), [])
        self.assertEqual(clerk.events(), [("asked", 7, 0), ("told", 7, 0, "done", [70, [(2, 1), (5, 70)]], 5)])
        self.assertEqual((len(calls), clerk.busy, clerk.number, clerk.idle()), (2, False, 1, False))
        self.assert_calls(clerk.act(), (4, 0, ("next",)))
        self.assertEqual(clerk.events(), [("asked", 7, 1)])

    def test_a_deal_that_fails(self):
        clerk = self.clerk([("put", 5, 1), ("get", 5), ("need", 6, 2), ("put", 7, 1)])
        self.assert_calls(self.to_read(clerk), (2, 1, ("read", D, 5, 5, 6)), (3, 1, ("read", D, 5, 6, 7)))
        self.tell(clerk, 3, "rows", ((6, 3),))
        self.assertEqual(self.tell(clerk, 2, "rows", ()), [])
        self.assertEqual(clerk.events()[1:], [("told", 7, 0, "failed", [None, 1], 5)])
        self.assertTrue(clerk.idle())

    def test_an_amount_beyond_the_limit_fails(self):
        clerk = self.clerk([("add", 5, 1)])
        self.to_read(clerk)
        self.assertEqual(self.tell(clerk, 2, "rows", ((5, 10 ** 18),)), [])
        self.assertEqual(clerk.events()[1:], [("told", 7, 0, "failed", [], 5)])

    def test_a_deal_without_parts(self):
        clerk = self.clerk([("put", 5, 1)], [("scan", 4, 4)])
        self.assert_calls(self.to_read(clerk), (2, 1, ("prepare", D, 5, (), ((5, 1),), 1)))
        scan = self.clerk([("scan", 4, 4)])
        self.assertEqual(self.to_read(scan), [])
        self.assertEqual(scan.events()[1:], [("told", 7, 0, "done", [[]], 5)])
        self.assertTrue(scan.idle())

    def test_rows_may_come_in_any_order(self):
        for order in ((2, 3, 4), (4, 3, 2), (3, 2, 4)):
            clerk = self.clerk([("get", 5), ("get", 6), ("get", 7)])
            self.to_read(clerk)
            for token in order:
                self.tell(clerk, token, "rows", ((token + 3, token * 10),))
            self.assertEqual(clerk.events()[1:], [("told", 7, 0, "done", [20, 30, 40], 5)])


class Writing(ClerkTest):
    def test_it_prepares(self):
        clerk = self.clerk(WRITE)
        self.assert_calls(self.to_prepare(clerk, ((6, 1),)), (3, 1, ("prepare", D, 5, ((6, 7),), ((5, 8),), 1)))
        self.assertEqual(clerk.events(), [("asked", 7, 0)])

    def test_it_prepares_in_each_group(self):
        clerk = self.clerk(WIDE, places=(SIGN, NEXT_SIGN))
        calls = self.to_prepare(clerk, ((400, 30), (450, 1), (505, 2)))
        self.assert_calls(
            calls,
            (7, 1, ("prepare", D, 5, ((10, 11), (250, 300)), (), 4)),
            (8, 2, ("prepare", D, 5, ((500, 510),), ((600, 1),), 4)),
            (9, 4, ("prepare", D, 5, ((400, 401), (300, 500)), ((400, 32),), 4)))
        self.assertEqual(self.tell(clerk, 9, "prepared"), [])
        self.assertEqual(self.tell(clerk, 7, "prepared"), [])
        self.assert_calls(self.tell(clerk, 8, "prepared"), (10, 0, ("next",)))
        self.assert_calls(self.tell(clerk, 10, "time", 9), (11, 4, ("decide", D, 9)))
        self.assertEqual(clerk.events(), [("asked", 7, 0)])
        self.assert_calls(self.tell(clerk, 11, "decided", 9),
                          (12, 1, ("finish", D, 9)), (13, 2, ("finish", D, 9)))
        told = ("told", 7, 0, "done", [None, None, 32, [(400, 32), (450, 1), (505, 2)], 32], 9)
        self.assertEqual(clerk.events(), [told])
        self.assertEqual((clerk.busy, clerk.number, clerk.idle()), (True, 0, False))
        self.assertEqual(self.tell(clerk, 13, "missing"), [])
        self.assertTrue(clerk.busy)
        self.assertEqual(self.tell(clerk, 12, "decided", 9), [])
        self.assertEqual((clerk.busy, clerk.number, clerk.idle(), clerk.events()), (False, 1, True, []))

    def test_groups_with_changes_alone(self):
        clerk = self.clerk([("put", 600, 1), ("put", 100, None)], places=(SIGN,))
        self.assert_calls(self.to_read(clerk),
                          (2, 1, ("prepare", D, 5, (), ((100, None),), 1)),
                          (3, 2, ("prepare", D, 5, (), ((600, 1),), 1)))

    def test_one_group_needs_no_finish(self):
        clerk = self.clerk(WRITE)
        self.assert_calls(self.to_decide(clerk), (5, 1, ("decide", D, 9)))
        self.assertEqual(self.tell(clerk, 5, "decided", 9), [])
        self.assertEqual(clerk.events()[1:], [("told", 7, 0, "done", [None, None], 9)])
        self.assertEqual((clerk.busy, clerk.number, clerk.idle()), (False, 1, True))

    def test_the_time_of_the_decision_counts(self):
        clerk = self.clerk(WRITE)
        self.to_decide(clerk)
        self.tell(clerk, 5, "decided", 8)
        self.assertEqual(clerk.events()[1:], [("told", 7, 0, "done", [None, None], 8)])

    def test_a_change_to_the_same_value_is_a_change(self):
        clerk = self.clerk([("add", 5, 0)])
        self.assert_calls(self.to_prepare(clerk, ((5, 3),)), (3, 1, ("prepare", D, 5, ((5, 6),), ((5, 3),), 1)))

    def test_deals_one_after_the_other(self):
        clerk = self.clerk(WRITE, [("put", 1, 1)], READ)
        self.to_decide(clerk)
        self.tell(clerk, 5, "decided", 9)
        self.assert_calls(clerk.act(), (6, 0, ("next",)))
        self.assert_calls(self.tell(clerk, 6, "time", 10), (7, 1, ("prepare", (7, 1, 0), 10, (), ((1, 1),), 1)))
        self.assertEqual(clerk.number, 1)

    def test_deals_may_be_appended(self):
        clerk = self.clerk()
        self.assertEqual((clerk.act(), clerk.idle()), ([], True))
        clerk.deals.append(READ)
        self.assertFalse(clerk.idle())
        self.assert_calls(clerk.act(), (1, 0, ("next",)))


class Away(ClerkTest):
    def test_in_step_2(self):
        clerk = self.clerk([("get", 5), ("scan", 490, 510), ("get", 600)])
        self.to_read(clerk)
        self.tell(clerk, 2, "rows", ((5, 1),))
        self.assert_calls(self.tell(clerk, 3, "away", (SIGN,)),
                          (5, 1, ("read", D, 5, 5, 6)), (6, 1, ("read", D, 5, 490, 500)),
                          (7, 2, ("read", D, 5, 500, 510)), (8, 2, ("read", D, 5, 600, 601)))
        self.assertEqual(clerk.places, [(0, 1000, 1), SIGN])
        self.assertEqual(self.tell(clerk, 4, "rows", ((600, 9),)), [])
        for token, rows in ((5, ((5, 2),)), (6, ()), (7, ((501, 3),))):
            self.assertEqual(self.tell(clerk, token, "rows", rows), [])
        self.assertEqual(clerk.events(), [("asked", 7, 0)])
        self.tell(clerk, 8, "rows", ())
        self.assertEqual(clerk.events(), [("told", 7, 0, "done", [2, [(501, 3)], None], 5)])

    def test_rows_of_before_do_not_count(self):
        clerk = self.clerk([("get", 5), ("get", 600)])
        self.to_read(clerk)
        self.tell(clerk, 2, "rows", ((5, 1),))
        self.tell(clerk, 3, "away", (SIGN,))
        self.tell(clerk, 4, "rows", ())
        self.tell(clerk, 5, "rows", ())
        self.assertEqual(clerk.events()[1:], [("told", 7, 0, "done", [None, None], 5)])

    def test_signs_that_are_known(self):
        clerk = self.clerk([("get", 700)], places=(SIGN,))
        self.to_read(clerk)
        self.assert_calls(self.tell(clerk, 2, "away", (SIGN, NEXT_SIGN, (700, 1000, 3))),
                          (3, 3, ("read", D, 5, 700, 701)))
        self.assertEqual(clerk.places, [(0, 1000, 1), SIGN, NEXT_SIGN, (700, 1000, 3)])
        self.assert_calls(self.tell(clerk, 3, "away", (SIGN,)), (4, 3, ("read", D, 5, 700, 701)))
        self.assertEqual(len(clerk.places), 4)

    def test_in_step_4(self):
        clerk = self.clerk(WIDE, places=(SIGN, NEXT_SIGN))
        self.to_prepare(clerk)
        sign = (590, 1000, 5)
        self.assert_calls(self.tell(clerk, 8, "away", (sign,)), (10, 4, ("drop", D)))
        self.assertEqual(clerk.places[3:], [sign])
        self.assertEqual(self.tell(clerk, 7, "prepared"), [])
        self.assertEqual(self.tell(clerk, 9, "prepared"), [])
        self.assert_calls(self.tell(clerk, 10, "decided", 0), (11, 1, ("finish", D, 0)), (12, 2, ("finish", D, 0)))
        self.assertEqual(self.tell(clerk, 11, "decided", 0), [])
        self.assertEqual(self.tell(clerk, 12, "decided", 0), [])
        self.assertEqual((clerk.busy, clerk.number, clerk.idle(), clerk.events()), (True, 0, False, [("asked", 7, 0)]))
        self.assert_calls(clerk.act(), (13, 0, ("next",)))
        self.assertEqual(clerk.events(), [])
        calls = self.tell(clerk, 13, "time", 20)
        self.assertEqual({letter[3][1:3] for _, letter in calls}, {((7, 0, 1), 20)})


class TurnedBack(ClerkTest):
    def test_in_step_4(self):
        for answer in (("stale",), ("decided", 0), ("decided", 12), ("away", ())):
            clerk = self.clerk(WRITE)
            self.to_prepare(clerk)
            self.assert_calls(self.tell(clerk, 3, *answer), (4, 1, ("drop", D)))
            self.assertEqual(self.tell(clerk, 4, "decided", 0), [])
            self.assertEqual((clerk.busy, clerk.number, clerk.events()), (True, 0, [("asked", 7, 0)]))
            self.assert_calls(clerk.act(), (5, 0, ("next",)))
            self.assert_calls(self.tell(clerk, 5, "time", 20), (6, 1, ("read", (7, 0, 1), 20, 6, 7)))

    def test_in_step_6(self):
        for answer in (("missing",), ("decided", 0)):
            clerk = self.clerk(WIDE, places=(SIGN, NEXT_SIGN))
            self.to_decide(clerk)
            self.assert_calls(self.tell(clerk, 11, *answer), (12, 4, ("drop", D)))
            self.assert_calls(self.tell(clerk, 12, "decided", 0),
                              (13, 1, ("finish", D, 0)), (14, 2, ("finish", D, 0)))
            self.assertEqual(clerk.events(), [("asked", 7, 0)])

    def test_the_drop_may_find_it_done(self):
        clerk = self.clerk(WIDE, places=(SIGN, NEXT_SIGN))
        self.to_prepare(clerk, ((400, 30),))
        self.assert_calls(self.tell(clerk, 8, "stale"), (10, 4, ("drop", D)))
        self.assert_calls(self.tell(clerk, 10, "decided", 33),
                          (11, 1, ("finish", D, 33)), (12, 2, ("finish", D, 33)))
        self.assertEqual(clerk.events()[1:], [("told", 7, 0, "done", [None, None, 32, [(400, 32)], 32], 33)])
        self.tell(clerk, 11, "decided", 33)
        self.tell(clerk, 12, "missing")
        self.assertEqual((clerk.busy, clerk.number, clerk.idle()), (False, 1, True))

    def test_the_drop_may_find_it_done_in_one_group(self):
        clerk = self.clerk(WRITE)
        self.to_prepare(clerk)
        self.tell(clerk, 3, "stale")
        self.assertEqual(self.tell(clerk, 4, "decided", 33), [])
        self.assertEqual(clerk.events()[1:], [("told", 7, 0, "done", [None, None], 33)])
        self.assertTrue(clerk.idle())

    def test_attempts_are_counted(self):
        clerk = self.clerk([("put", 5, 1)], [("put", 5, 2)])
        for attempt in range(3):
            calls = self.to_read(clerk, start=5 + attempt)
            self.assertEqual(calls[0][1][3][:3], ("prepare", (7, 0, attempt), 5 + attempt))
            calls = self.tell(clerk, calls[0][1][1], "stale")
            self.tell(clerk, calls[0][1][1], "decided", 0)
        clerk.forget()
        self.assertEqual(self.to_read(clerk)[0][1][3][1], (7, 1, 0))


class Busy(ClerkTest):
    def test_in_step_2(self):
        clerk = self.clerk(READ)
        self.to_read(clerk)
        self.assert_calls(self.tell(clerk, 2, "busy", OTHER, 6), (3, 6, ("drop", OTHER)))
        self.assertEqual(self.tell(clerk, 2, "rows", ()), [])
        self.assert_calls(self.tell(clerk, 3, "decided", 40), (4, 1, ("finish", OTHER, 40)))
        self.assert_calls(self.tell(clerk, 4, "missing"), (5, 1, ("read", D, 5, 5, 6)))
        self.tell(clerk, 5, "rows", ((5, 1),))
        self.assertEqual(clerk.events()[1:], [("told", 7, 0, "done", [1], 5)])

    def test_in_step_4(self):
        for time in (0, 40):
            clerk = self.clerk(WRITE)
            self.to_prepare(clerk)
            self.assert_calls(self.tell(clerk, 3, "busy", OTHER, 1), (4, 1, ("drop", OTHER)))
            self.assert_calls(self.tell(clerk, 4, "decided", time), (5, 1, ("finish", OTHER, time)))
            self.assert_calls(self.tell(clerk, 5, "decided", time),
                              (6, 1, ("prepare", D, 5, ((6, 7),), ((5, 8),), 1)))
            self.assert_calls(self.tell(clerk, 6, "prepared"), (7, 0, ("next",)))

    def test_a_call_that_waits_is_not_open(self):
        clerk = self.clerk(READ)
        self.to_read(clerk)
        self.tell(clerk, 2, "busy", OTHER, 6)
        self.assert_calls(clerk.act(), (1, 3, 6, ("drop", OTHER)))
        self.lost(clerk, 2, 2)
        self.assertEqual(self.tell(clerk, 2, "busy", THIRD, 6), [])

    def test_several_calls_wait_for_one_deal(self):
        clerk = self.clerk([("get", 5), ("get", 6), ("get", 7)])
        self.to_read(clerk)
        self.assert_calls(self.tell(clerk, 2, "busy", OTHER, 1), (5, 1, ("drop", OTHER)))
        self.assert_calls(self.tell(clerk, 4, "busy", OTHER, 1), (6, 1, ("drop", OTHER)))
        self.assert_calls(self.tell(clerk, 6, "decided", 0), (7, 1, ("finish", OTHER, 0)))
        self.assert_calls(self.tell(clerk, 7, "decided", 0), (8, 1, ("read", D, 5, 7, 8)))
        self.tell(clerk, 8, "rows", ())
        self.tell(clerk, 3, "rows", ())
        self.assertEqual(clerk.events(), [("asked", 7, 0)])
        self.assert_calls(self.tell(clerk, 5, "decided", 0), (9, 1, ("finish", OTHER, 0)))
        self.assert_calls(self.tell(clerk, 9, "decided", 0), (10, 1, ("read", D, 5, 5, 6)))
        self.tell(clerk, 10, "rows", ())
        self.assertEqual(clerk.events(), [("told", 7, 0, "done", [None, None, None], 5)])

    def test_several_deals_in_the_way(self):
        clerk = self.clerk(READ)
        self.to_read(clerk)
        calls = self.tell(clerk, 2, "busy", OTHER, 6)
        for deal, lead, time in ((OTHER, 6, 0), (THIRD, 2, 44), (OTHER, 6, 45)):
            self.assertEqual([letter[2:] for _, letter in calls], [(lead, ("drop", deal))])
            calls = self.tell(clerk, calls[0][1][1], "decided", time)
            self.assertEqual([letter[2:] for _, letter in calls], [(1, ("finish", deal, time))])
            calls = self.tell(clerk, calls[0][1][1], "decided", time)
            self.assertEqual([letter[2:] for _, letter in calls], [(1, ("read", D, 5, 5, 6))])
            if deal != OTHER or time != 45:
                following = {0: (THIRD, 2), 44: (OTHER, 6)}[time]
                calls = self.tell(clerk, calls[0][1][1], "busy", *following)
        self.tell(clerk, calls[0][1][1], "rows", ())
        self.assertTrue(clerk.idle())

    def test_what_waits_is_given_up_by_away(self):
        clerk = self.clerk([("get", 5), ("get", 600)])
        self.to_read(clerk)
        self.tell(clerk, 2, "busy", OTHER, 6)
        self.assert_calls(self.tell(clerk, 3, "away", (SIGN,)),
                          (5, 1, ("read", D, 5, 5, 6)), (6, 2, ("read", D, 5, 600, 601)))
        self.assertEqual(self.tell(clerk, 4, "decided", 0), [])
        self.assertEqual([letter[1] for _, letter in clerk.act()], [5, 6])

    def test_what_waits_is_given_up_by_turning_back(self):
        for deep in (False, True):
            clerk = self.clerk(WIDE, places=(SIGN, NEXT_SIGN))
            self.to_prepare(clerk)
            self.tell(clerk, 7, "busy", OTHER, 1)
            if deep:
                self.tell(clerk, 10, "decided", 0)
            calls = self.tell(clerk, 9, "stale")
            token = calls[0][1][1]
            self.assert_calls(calls, (token, 4, ("drop", D)))
            for late in range(1, token):
                self.assertEqual(self.tell(clerk, late, "decided", 0), [])
            self.assertEqual([letter[1] for _, letter in clerk.act()], [token])

    def test_an_answer_busy_to_a_finish_is_an_answer(self):
        clerk = self.clerk(WIDE, places=(SIGN, NEXT_SIGN))
        self.to_decide(clerk)
        self.tell(clerk, 11, "decided", 9)
        self.assertEqual(self.tell(clerk, 12, "busy", OTHER, 1), [])
        self.assertEqual(self.tell(clerk, 13, "away", (SIGN,)), [])
        self.assertEqual(clerk.places, [(0, 1000, 1), SIGN, NEXT_SIGN])
        self.assertTrue(clerk.idle())


class Routes(ClerkTest):
    def machines(self, calls):
        return [number for number, _ in calls]

    def test_a_call_is_sent_again_with_its_token(self):
        clerk = self.clerk(READ)
        first = clerk.act()
        for machine in (1, 2, 0, 1, 2, 0):
            self.assertEqual(clerk.act(), [(machine, first[0][1])])

    def test_a_lost_names_the_machine(self):
        clerk = self.clerk(READ, machines=5)
        clerk.act()
        self.lost(clerk, 1, 3)
        self.assertEqual(self.machines(clerk.act()), [3])
        self.assertEqual(self.machines(clerk.act()), [1])
        self.lost(clerk, 1, 4)
        self.assertEqual(self.machines(clerk.act()), [4])
        self.lost(clerk, 1, 3)
        self.assertEqual(self.machines(clerk.act()), [2])
        self.lost(clerk, 1, 2)
        self.assertEqual(self.machines(clerk.act()), [2])
        self.assertEqual(self.machines(clerk.act()), [3])

    def test_a_lost_without_a_machine(self):
        clerk = self.clerk(READ)
        clerk.act()
        self.lost(clerk, 1, None)
        self.assertEqual(self.machines(clerk.act()), [1])

    def test_the_last_thing_heard_counts(self):
        clerk = self.clerk(READ, machines=5)
        clerk.act()
        self.lost(clerk, 1, 4)
        self.lost(clerk, 1, None)
        self.assertEqual(self.machines(clerk.act()), [1])
        self.lost(clerk, 1, None)
        self.lost(clerk, 1, 4)
        self.lost(clerk, 1, 3)
        self.assertEqual(self.machines(clerk.act()), [3])

    def test_what_was_heard_before_the_call_was_sent_again(self):
        clerk = self.clerk(READ, machines=5)
        clerk.act()
        self.lost(clerk, 1, 3)
        self.assertEqual(self.machines(clerk.act()), [3])
        self.assertEqual(self.machines(clerk.act()), [1])
        self.assertEqual(self.machines(clerk.act()), [2])

    def test_one_machine(self):
        clerk = self.clerk(READ, machines=1)
        self.assertEqual([self.machines(clerk.act()) for _ in range(3)], [[0], [0], [0]])

    def test_the_lowest_token_decides(self):
        clerk = self.clerk([("get", 5), ("get", 6)], machines=5)
        self.to_read(clerk)
        self.lost(clerk, 3, 4)
        self.assertEqual(self.machines(clerk.act()), [1, 1])
        self.lost(clerk, 2, 3)
        self.lost(clerk, 3, 2)
        self.assertEqual(self.machines(clerk.act()), [3, 3])
        self.tell(clerk, 2, "rows", ())
        self.lost(clerk, 3, 4)
        self.assertEqual(self.machines(clerk.act()), [2])

    def test_groups_are_apart(self):
        clerk = self.clerk([("get", 5), ("get", 600)], machines=5, places=(SIGN,))
        clerk.act()
        clerk.act()
        calls = self.tell(clerk, 1, "time", 5)
        self.assertEqual(self.machines(calls), [0, 0])
        self.lost(clerk, 3, 4)
        self.assertEqual([(number, letter[2]) for number, letter in clerk.act()], [(1, 1), (4, 2)])
        self.assertEqual([(number, letter[2]) for number, letter in clerk.act()], [(2, 1), (1, 2)])

    def test_what_hear_returns_goes_to_the_known_machine(self):
        clerk = self.clerk(WRITE, READ)
        clerk.act()
        clerk.act()
        self.assertEqual(self.machines(self.tell(clerk, 1, "time", 5)), [0])
        self.assertEqual(self.machines(clerk.act()), [1])
        self.assertEqual(self.machines(self.tell(clerk, 2, "rows", ())), [1])
        self.assertEqual(self.machines(self.tell(clerk, 3, "prepared")), [1])
        self.lost(clerk, 4, 2)
        self.assertEqual(self.machines(clerk.act()), [2])
        self.assertEqual(self.machines(self.tell(clerk, 4, "time", 9)), [1])
        self.tell(clerk, 5, "decided", 9)
        self.assertEqual(self.machines(clerk.act()), [2])
        self.assertEqual(self.machines(clerk.act()), [2])
        self.assertEqual(self.machines(clerk.act()), [0])

    def test_a_machine_that_was_taken_from_a_lost_is_left_by_the_turn(self):
        clerk = self.clerk(READ, machines=3)
        clerk.act()
        self.lost(clerk, 1, 2)
        self.assertEqual(self.machines(clerk.act()), [2])
        self.lost(clerk, 1, 0)
        self.assertEqual(self.machines(clerk.act()), [1])
        self.lost(clerk, 1, 0)
        self.assertEqual(self.machines(clerk.act()), [0])
        self.lost(clerk, 1, 1)
        self.assertEqual(self.machines(clerk.act()), [2])

    def test_calls_are_sent_in_the_order_of_their_tokens(self):
        clerk = self.clerk([("get", 5), ("get", 600), ("get", 6)], places=(SIGN,))
        self.to_read(clerk)
        self.tell(clerk, 2, "busy", OTHER, 1)
        self.assertEqual([letter[1] for _, letter in clerk.act()], [3, 4, 5])


class Tokens(ClerkTest):
    def test_answers_for_tokens_that_are_not_open(self):
        clerk = self.clerk(READ)
        for token in (0, 1, 2, -1, 99):
            self.assertEqual(self.tell(clerk, token, "time", 5), [])
        clerk.act()
        self.assertEqual(self.tell(clerk, 2, "time", 5), [])
        self.lost(clerk, 2, 1)
        self.assertEqual(len(self.tell(clerk, 1, "time", 5)), 1)
        self.assertEqual(self.tell(clerk, 1, "time", 6), [])
        self.assertEqual(self.tell(clerk, 2, "rows", ()), [])
        self.assertEqual(clerk.events(), [("asked", 7, 0), ("told", 7, 0, "done", [None], 5)])
        self.assertEqual(self.tell(clerk, 2, "rows", ((5, 1),)), [])
        self.assertEqual(clerk.events(), [])

    def test_an_answer_behind_a_lost(self):
        clerk = self.clerk(READ)
        clerk.act()
        self.lost(clerk, 1, 2)
        self.assertEqual(len(self.tell(clerk, 1, "time", 5)), 1)

    def test_no_token_is_used_twice(self):
        clerk = self.clerk(READ, READ, WRITE)
        seen = []
        for _ in range(3):
            seen.extend(letter[1] for _, letter in self.to_read(clerk))
            clerk.forget()
        self.assertEqual(seen, [2, 4, 6])


class Forget(ClerkTest):
    def test_nothing_is_at_work(self):
        clerk = self.clerk(READ, WRITE)
        clerk.forget()
        self.assertEqual((clerk.number, clerk.busy, clerk.events()), (0, False, []))
        self.to_read(clerk)
        self.tell(clerk, 2, "rows", ())
        clerk.forget()
        self.assertEqual((clerk.number, clerk.busy), (1, False))

    def test_at_each_step(self):
        steps = {
            "start": lambda clerk: clerk.act(),
            "read": self.to_read,
            "prepare": self.to_prepare,
            "time": self.to_time,
            "decide": self.to_decide,
            "finish": lambda clerk: self.tell(clerk, self.to_decide(clerk)[0][1][1], "decided", 9),
            "drop": lambda clerk: self.tell(clerk, self.to_prepare(clerk)[0][1][1], "stale"),
            "busy": lambda clerk: self.tell(clerk, self.to_prepare(clerk)[0][1][1], "busy", OTHER, 1),
        }
        for name, step in steps.items():
            clerk = self.clerk(WIDE, READ, places=(SIGN, NEXT_SIGN))
            last = max(letter[1] for _, letter in step(clerk))
            told = [event for event in clerk.events() if event[0] == "told"]
            self.assertEqual(len(told), 1 if name == "finish" else 0)
            clerk.forget()
            self.assertEqual((clerk.number, clerk.busy, clerk.idle(), clerk.events()), (1, False, False, []), name)
            for token in range(last + 1):
                self.assertEqual(self.tell(clerk, token, "decided", 12), [], name)
            self.assertEqual(clerk.events(), [])
            calls = clerk.act()
            self.assertEqual([letter for _, letter in calls], [("call", last + 1, 0, ("next",))], name)
            self.assertEqual(clerk.events(), [("asked", 7, 1)])

    def test_between_two_attempts(self):
        clerk = self.clerk(WRITE)
        self.to_prepare(clerk)
        self.tell(clerk, 3, "stale")
        self.tell(clerk, 4, "decided", 0)
        self.assertTrue(clerk.busy)
        clerk.forget()
        self.assertEqual((clerk.number, clerk.busy, clerk.idle(), clerk.act()), (1, False, True, []))

    def test_the_machines_are_kept(self):
        clerk = self.clerk(READ, READ)
        clerk.act()
        clerk.act()
        clerk.forget()
        self.assert_calls(clerk.act(), (1, 2, 0, ("next",)))


if __name__ == "__main__":
    unittest.main()
