"""Points 20 to 22: copies, bases, what they are answered by, what is committed, and how logs are shortened."""

import unittest

from helpers import counter_base, emptied, table_base
from test_replica_votes import ReplicaTest, leader, with_log
from wholecloth.replica import Replica
from wholecloth.table import Table

NONE = ("none",)
DROP = ("drop", (0, 0, 0))


def entries(*terms):
    return tuple((term, NONE) for term in terms)


class Copies(ReplicaTest):
    def copy(self, replica, index, index_term, pairs, committed=0, term=9):
        """The answer to a copy, and the records that it makes."""
        replica.term = term
        replica.take(1, ("copy", 1, term, index, index_term, pairs, committed))
        self.assertEqual((replica.role, replica.leader), ("follower", 1))
        left = emptied(replica)
        self.assertEqual(len(left["letters"]), 1)
        receiver, letter = left["letters"][0]
        self.assertEqual((receiver, letter[:3], len(letter)), (1, ("got", 1, term), 5))
        return letter[3:], left["records"]

    def test_entries_are_appended(self):
        replica = with_log(0, [1], 0, 1)
        answer, records = self.copy(replica, 1, 1, ((2, DROP), (3, NONE)))
        self.assertEqual(answer, (True, 3))
        self.assertEqual(records, [("entry", 1, 2, 2, DROP), ("entry", 1, 3, 3, NONE)])
        self.assertEqual(replica.entries, [(1, NONE), (2, DROP), (3, NONE)])
        self.assertEqual((replica.last_index, replica.durable, replica.committed), (3, 1, 0))

    def test_the_first_entries(self):
        replica = Replica(0, 1, table_base(0, 1, index=7, term=3))
        self.assertEqual(self.copy(replica, 7, 3, entries(4)), ((True, 8), [("entry", 1, 8, 4, NONE)]))
        self.assertEqual(replica.entries, [(4, NONE)])

    def test_a_copy_without_entries(self):
        replica = with_log(0, [1, 1], 0, 1)
        self.assertEqual(self.copy(replica, 1, 1, ()), ((True, 1), []))
        self.assertEqual(self.copy(replica, 0, 0, ()), ((True, 0), []))
        self.assertEqual(self.copy(replica, 2, 1, ()), ((True, 2), []))
        self.assertEqual(replica.entries, [(1, NONE), (1, NONE)])

    def test_a_blank_one_has_no_entry(self):
        replica = Replica(0, 1, None)
        self.assertEqual(self.copy(replica, 0, 0, entries(1)), ((False, -1), []))
        self.assertEqual((replica.entries, replica.base, replica.state), ([], None, None))

    def test_a_gap(self):
        replica = with_log(0, [1, 1], 0, 1)
        self.assertEqual(self.copy(replica, 3, 1, entries(1)), ((False, 2), []))
        self.assertEqual(self.copy(replica, 30, 1, ()), ((False, 2), []))
        based = Replica(0, 1, table_base(0, 1, index=7, term=3))
        self.assertEqual(self.copy(based, 8, 3, entries(3)), ((False, 7), []))

    def test_another_term_at_the_index(self):
        replica = with_log(0, [1, 1, 2], 0, 1)
        self.assertEqual(self.copy(replica, 3, 3, entries(4)), ((False, 2), []))
        self.assertEqual(self.copy(replica, 2, 2, entries(4)), ((False, 1), []))
        self.assertEqual(self.copy(replica, 0, 1, entries(4)), ((False, -1), []))
        self.assertEqual(len(replica.entries), 3)
        based = Replica(0, 1, table_base(0, 1, index=7, term=3))
        self.assertEqual(self.copy(based, 7, 2, ()), ((False, 6), []))

    def test_below_the_base_the_term_is_not_compared(self):
        replica = Replica(0, 1, table_base(0, 1, index=7, term=3))
        self.assertEqual(self.copy(replica, 5, 99, entries(1, 2)), ((True, 7), []))
        self.assertEqual(self.copy(replica, 5, 99, entries(1, 2, 4, 5)),
                         ((True, 9), [("entry", 1, 8, 4, NONE), ("entry", 1, 9, 5, NONE)]))
        self.assertEqual(self.copy(replica, 2, 1, entries(1)), ((True, 3), []))
        self.assertEqual(replica.entries, [(4, NONE), (5, NONE)])

    def test_entries_that_agree_stay(self):
        replica = with_log(0, [1, 1, 2], 0, 1)
        replica.entries[1] = (1, DROP)
        self.assertEqual(self.copy(replica, 0, 0, ((1, NONE), (1, DROP))), ((True, 2), []))
        self.assertEqual(replica.entries, [(1, NONE), (1, DROP), (2, NONE)])
        self.assertEqual(self.copy(replica, 1, 1, ((1, DROP), (2, NONE), (2, DROP))),
                         ((True, 4), [("entry", 1, 4, 2, DROP)]))

    def test_the_first_one_that_differs_removes_what_follows(self):
        replica = with_log(0, [1, 1, 1, 1], 0, 1)
        self.assertEqual(self.copy(replica, 0, 0, entries(1, 2)), ((True, 2), [("entry", 1, 2, 2, NONE)]))
        self.assertEqual(replica.entries, [(1, NONE), (2, NONE)])
        self.assertEqual((replica.last_index, replica.durable), (2, 1))

    def test_what_follows_the_one_that_differs_is_new(self):
        replica = with_log(0, [1, 1, 3, 3], 0, 1)
        records = [("entry", 1, 2, 2, NONE), ("entry", 1, 3, 3, NONE)]
        self.assertEqual(self.copy(replica, 1, 1, entries(2, 3)), ((True, 3), records))
        self.assertEqual(replica.entries, [(1, NONE), (2, NONE), (3, NONE)])
        self.assertEqual(replica.durable, 1)

    def test_entries_that_were_not_synced(self):
        replica = with_log(0, [1, 1, 1], 0, 1)
        replica.durable = 1
        self.copy(replica, 2, 1, entries(2))
        self.assertEqual((replica.entries[2], replica.durable), ((2, NONE), 1))
        replica.synced()
        self.assertEqual(replica.durable, 3)

    def test_the_committed_index(self):
        for committed, expected in ((0, 0), (1, 1), (2, 2), (3, 3), (4, 3), (90, 3)):
            replica = with_log(0, [1, 1, 1, 1], 0, 1)
            self.copy(replica, 1, 1, entries(1, 1), committed)
            self.assertEqual((replica.committed, replica.applied), (expected, expected), committed)
            self.copy(replica, 0, 0, entries(1), 90)
            self.assertEqual(replica.committed, max(expected, 1))

    def test_an_answer_that_is_not_good_commits_nothing(self):
        replica = with_log(0, [1, 1], 0, 1)
        self.copy(replica, 2, 2, (), 2)
        self.copy(replica, 3, 1, (), 2)
        self.assertEqual(replica.committed, 0)

    def test_what_is_committed_is_applied_in_order(self):
        replica = Replica(0, 1, table_base(0, 1))
        pairs = ((1, DROP), (1, ("members", (0, 1, 2))), (1, ("decide", (0, 0, 0), 5)), (1, NONE))
        replica.take(1, ("copy", 1, 1, 0, 0, pairs, 3))
        left = emptied(replica)
        self.assertEqual(left["ledger"], [(1, DROP), (2, ("members", (0, 1, 2))), (3, ("decide", (0, 0, 0), 5))])
        self.assertEqual((left["answers"], replica.applied, replica.members), ([], 3, (0, 1, 2)))
        self.assertEqual(replica.state.decision((0, 0, 0)), 0)
        replica.take(1, ("copy", 1, 1, 4, 1, (), 4))
        self.assertEqual(emptied(replica)["ledger"], [(4, NONE)])

    def test_copies_that_come_twice_and_late(self):
        replica = Replica(0, 1, table_base(0, 1))
        first = ("copy", 1, 1, 0, 0, entries(1, 1), 1)
        second = ("copy", 1, 1, 2, 1, entries(1), 3)
        for letter in (first, first, second, first, second):
            replica.take(1, letter)
        self.assertEqual(replica.entries, list(entries(1, 1, 1)))
        left = emptied(replica)
        self.assertEqual([letter[3:] for _, letter in left["letters"]],
                         [(True, 2), (True, 2), (True, 3), (True, 2), (True, 3)])
        self.assertEqual((len(left["records"]), [index for index, _ in left["ledger"]]), (4, [1, 2, 3]))


class Bases(ReplicaTest):
    def base(self, replica, base):
        """The records that a base makes; it is answered as good."""
        replica.take(1, ("base", 1, 9, base))
        self.assertEqual((replica.role, replica.leader), ("follower", 1))
        left = emptied(replica)
        self.assertEqual(left["letters"], [(1, ("got", 1, 9, True, base[0]))])
        return [record for record in left["records"] if record[0] != "term"]

    def table(self, index, term, *members):
        table = Table(0, 700)
        table.run(DROP)
        return (index, term, members, table.picture())

    def test_a_blank_one_takes_it(self):
        for base in (self.table(0, 0, 0), self.table(8, 3, 1, 2)):
            replica = Replica(0, 1, None)
            replica.take(2, ("ask", 1, 9, 0, 0))
            emptied(replica)
            self.assertEqual(self.base(replica, base), [("base", 1, base)])
            self.assertEqual((replica.base, replica.entries, replica.members), (base, [], base[2]))
            self.assertEqual((replica.committed, replica.applied, replica.durable, replica.last_index), (base[0],) * 4)
            self.assertEqual((replica.term, replica.voted), (9, 2))
            self.assertEqual(replica.state.picture(), base[3])

    def test_it_replaces_everything(self):
        replica = with_log(0, [1, 1, 1], 0, 1)
        base = self.table(8, 3, 1, 2)
        self.assertEqual(self.base(replica, base), [("base", 1, base)])
        self.assertEqual((replica.base, replica.entries, replica.state.picture()), (base, [], base[3]))
        self.assertEqual((replica.committed, replica.applied, replica.durable, replica.last_index), (8, 8, 8, 8))

    def test_it_replaces_longer_logs_too(self):
        replica = with_log(0, [1, 1, 1, 1], 0, 1)
        base = self.table(2, 2, 1, 2)
        self.assertEqual(self.base(replica, base), [("base", 1, base)])
        self.assertEqual((replica.entries, replica.last_index, replica.durable), ([], 2, 2))
        replica.take(1, ("copy", 1, 9, 2, 2, entries(9, 9), 2))
        self.assertEqual((replica.last_index, replica.durable), (4, 2))

    def test_a_counter(self):
        replica = Replica(0, 0, counter_base(0, 1))
        replica.take(1, ("base", 0, 1, counter_base(0, 1, index=5, term=1, last=40)))
        self.assertEqual((replica.state.last, replica.applied), (40, 5))

    def test_it_has_the_entry(self):
        replica = with_log(0, [1, 1, 3], 0, 1)
        before = replica.base
        self.assertEqual(self.base(replica, self.table(2, 1, 1, 2)), [])
        self.assertEqual((replica.base, len(replica.entries), replica.members), (before, 3, (0, 1)))
        self.assertEqual((replica.committed, replica.applied, replica.durable), (2, 2, 3))
        self.assertIsNone(replica.state.decision((0, 0, 0)))

    def test_it_has_the_entry_and_more_is_committed(self):
        replica = with_log(0, [1, 1, 3], 0, 1)
        replica.take(1, ("copy", 1, 3, 3, 3, (), 3))
        self.assertEqual([index for index, _ in emptied(replica)["ledger"]], [1, 2, 3])
        self.assertEqual(self.base(replica, self.table(2, 1, 1, 2)), [])
        self.assertEqual((replica.committed, replica.applied), (3, 3))

    def test_it_is_not_beyond_what_is_committed(self):
        for index in (0, 1, 2):
            replica = with_log(0, [1, 1, 3], 0, 1)
            replica.take(1, ("copy", 1, 3, 2, 1, (), 2))
            emptied(replica)
            before = replica.base
            self.assertEqual(self.base(replica, self.table(index, 8, 1, 2)), [])
            self.assertEqual((replica.base, len(replica.entries), replica.committed), (before, 3, 2))

    def test_its_own_base(self):
        own = self.table(5, 2, 0, 1)
        replica = Replica(0, 1, own)
        self.assertEqual(self.base(replica, own), [])
        self.assertEqual(self.base(replica, self.table(4, 2, 0, 1)), [])
        self.assertEqual((replica.base, replica.committed), (own, 5))

    def test_unsynced_entries_before_it(self):
        replica = with_log(0, [1], 0, 1)
        replica.take(1, ("copy", 1, 9, 1, 1, entries(9), 0))
        emptied(replica)
        self.base(replica, self.table(6, 9, 0, 1))
        self.assertEqual(replica.durable, 6)


class Gots(ReplicaTest):
    def got(self, replica, sender, good, index):
        replica.take(sender, ("got", 1, replica.term, good, index))
        return emptied(replica)

    def test_a_good_one(self):
        replica = leader(0, 1, 2)
        left = self.got(replica, 1, True, 1)
        self.assertEqual((left["letters"], left["ledger"], replica.committed), ([], [(1, NONE)], 1))
        replica.nudge()
        self.assertEqual([letter[3] for _, letter in emptied(replica)["letters"]], [1, 0])

    def test_next_indexes_follow_known_ones(self):
        replica = leader(0, 1, 2)
        replica.propose(DROP, 7)
        emptied(replica)
        for good, index, expected in ((True, 2, 2), (True, 1, 2), (True, 0, 2)):
            self.got(replica, 1, good, index)
            replica.nudge()
            self.assertEqual([letter[3] for _, letter in emptied(replica)["letters"]], [expected, 0])

    def test_one_that_is_not_good_is_sent_to_again(self):
        replica = with_log(0, [1, 1, 1, 1], 0, 1, 2)
        replica.stand()
        replica.take(2, ("vote", 1, 2, True))
        emptied(replica)
        for answered, expected in ((9, 3), (9, 2), (0, 0), (9, "base"), (9, "base")):
            letters = self.got(replica, 1, False, answered)["letters"]
            self.assertEqual(len(letters), 1)
            receiver, letter = letters[0]
            self.assertEqual(receiver, 1)
            if expected == "base":
                self.assertEqual(letter, ("base", 1, 2, replica.base))
            else:
                pairs = entries(*[1, 1, 1, 1, 2][expected:])
                self.assertEqual(letter, ("copy", 1, 2, expected, 1 if expected else 0, pairs, 0))

    def test_minus_one_asks_for_the_base(self):
        replica = leader(0, 1, 2)
        self.assertEqual(self.got(replica, 1, False, -1)["letters"], [(1, ("base", 1, 1, replica.base))])
        self.got(replica, 1, True, 0)
        replica.nudge()
        self.assertEqual(emptied(replica)["letters"][0][1][:4], ("copy", 1, 1, 0))

    def test_the_next_index_may_go_below_the_known_one(self):
        replica = leader(0, 1, 2)
        self.got(replica, 1, True, 1)
        self.assertEqual(self.got(replica, 1, False, 0)["letters"], [(1, ("copy", 1, 1, 0, 0, entries(1), 1))])
        self.got(replica, 1, True, 0)
        replica.nudge()
        self.assertEqual(emptied(replica)["letters"][0][1][3], 1)

    def test_strangers_and_others_are_ignored(self):
        replica = leader(0, 1, 2)
        for sender in (3, 101, 7):
            for good in (True, False):
                self.assertEqual(self.got(replica, sender, good, 1)["letters"], [])
        self.assertEqual(replica.committed, 0)
        follower = with_log(0, [1], 0, 1)
        follower.take(1, ("got", 1, 1, True, 1))
        follower.take(1, ("got", 1, 1, False, 0))
        self.assertEqual(follower.committed, 0)
        self.assert_left(follower)

    def test_gots_of_an_elder_term_are_ignored(self):
        replica = with_log(0, [1, 1], 0, 1, 2)
        replica.stand()
        replica.take(2, ("vote", 1, 2, True))
        replica.synced()
        emptied(replica)
        replica.take(1, ("got", 1, 1, True, 3))
        replica.take(1, ("got", 1, 1, False, 1))
        self.assertEqual(replica.committed, 0)
        self.assert_left(replica)

    def test_the_leader_looks_in_both_cases(self):
        for good, index in ((True, 0), (False, 0)):
            replica = leader(0, 1, 2, 3, 4)
            replica.propose(DROP, 7)
            for member in (1, 2):
                replica.take(member, ("got", 1, 1, True, 2))
            emptied(replica)
            self.assertEqual(replica.committed, 1)
            replica.durable = 2
            self.assertEqual([at for at, _ in self.got(replica, 3, good, index)["ledger"]], [2])

    def test_after_the_log_was_shortened_the_base_is_sent(self):
        replica = leader(0, 1, 2)
        self.got(replica, 1, True, 1)
        replica.shorten()
        emptied(replica)
        self.assertEqual((replica.base[0], replica.entries), (1, []))
        replica.nudge()
        self.assertEqual(emptied(replica)["letters"],
                         [(1, ("copy", 1, 1, 1, 1, (), 1)), (2, ("base", 1, 1, replica.base))])


class Committing(ReplicaTest):
    def test_majorities(self):
        for many, needed in ((1, 0), (2, 1), (3, 1), (4, 2), (5, 2)):
            replica = leader(*range(many))
            for count, member in enumerate(range(1, many)):
                self.assertEqual(replica.committed, 1 if count >= needed else 0)
                replica.take(member, ("got", 1, 1, True, 1))
            self.assertEqual(replica.committed, 1)

    def test_its_own_entries_count_when_they_are_synced(self):
        replica = Replica(0, 1, table_base(0, 1))
        replica.stand()
        replica.take(1, ("vote", 1, 1, True))
        replica.take(1, ("got", 1, 1, True, 1))
        self.assertEqual(replica.committed, 0)
        replica.synced()
        self.assertEqual((replica.committed, replica.applied), (1, 1))

    def test_others_may_be_enough(self):
        replica = Replica(0, 1, table_base(0, 1, 2))
        replica.stand()
        replica.take(1, ("vote", 1, 1, True))
        replica.take(1, ("got", 1, 1, True, 1))
        self.assertEqual((replica.committed, replica.durable), (0, 0))
        replica.take(2, ("got", 1, 1, True, 1))
        self.assertEqual((replica.committed, replica.durable), (1, 0))

    def test_entries_of_an_elder_term_wait_for_one_of_its_own(self):
        replica = with_log(0, [1, 1], 0, 1, 2)
        replica.stand()
        replica.take(1, ("vote", 1, 2, True))
        replica.synced()
        replica.take(1, ("got", 1, 2, True, 2))
        self.assertEqual(replica.committed, 0)
        replica.take(1, ("got", 1, 2, True, 3))
        self.assertEqual([index for index, _ in emptied(replica)["ledger"]], [1, 2, 3])

    def test_the_greatest_index_of_a_majority(self):
        replica = leader(0, 1, 2, 3, 4)
        for n in range(5):
            replica.propose(("drop", (0, n, 0)), n)
        replica.synced()
        for member, index, expected in ((1, 5, 0), (2, 3, 3), (3, 4, 4), (4, 6, 5), (3, 6, 6)):
            replica.take(member, ("got", 1, 1, True, index))
            self.assertEqual(replica.committed, expected)

    def test_it_does_not_look_at_other_moments(self):
        replica = leader(0, 1, 2)
        replica.take(1, ("got", 1, 1, True, 1))
        replica.propose(DROP, 7)
        replica.known = {member: 2 for member in (0, 1, 2)}
        for event in (replica.nudge, replica.shorten, replica.stand, lambda: replica.propose(NONE, 8),
                      lambda: replica.take(1, ("ask", 1, 1, 0, 0)), lambda: replica.take(1, ("vote", 1, 1, True))):
            event()
            self.assertEqual(replica.committed, 1)
        replica.synced()
        self.assertGreater(replica.committed, 1)

    def test_the_committed_index_does_not_go_back(self):
        replica = leader(0, 1, 2)
        replica.take(1, ("got", 1, 1, True, 1))
        replica.take(2, ("got", 1, 1, True, 0))
        replica.synced()
        self.assertEqual((replica.committed, replica.applied), (1, 1))
        self.assertEqual([index for index, _ in emptied(replica)["ledger"]], [1])

    def test_a_follower_does_not_commit_when_it_is_synced(self):
        replica = with_log(0, [1], 0)
        replica.synced()
        self.assertEqual((replica.committed, replica.durable), (0, 1))
        blank = Replica(0, 1, None)
        blank.synced()
        self.assertEqual((blank.committed, blank.durable), (-1, -1))
        self.assert_left(blank)


class Shorten(ReplicaTest):
    def test_the_base_moves(self):
        replica = Replica(0, 1, table_base(0, 1))
        pairs = ((1, DROP), (1, ("members", (0, 1, 2))), (2, NONE), (2, ("members", (0, 1))), (3, NONE))
        replica.take(1, ("copy", 1, 3, 0, 0, pairs, 3))
        emptied(replica)
        state = replica.state
        replica.shorten()
        base = (3, 2, (0, 1, 2), state.picture())
        self.assertEqual(replica.base, base)
        self.assertEqual(replica.entries, [(2, ("members", (0, 1))), (3, NONE)])
        self.assertEqual((replica.members, replica.last_index), ((0, 1), 5))
        self.assertEqual((replica.committed, replica.applied, replica.durable), (3, 3, 3))
        self.assertIs(replica.state, state)
        self.assertEqual(state.decision((0, 0, 0)), 0)
        self.assert_left(replica, records=[("base", 1, base)])

    def test_the_members_of_the_base_stay(self):
        replica = Replica(0, 1, table_base(0, 4))
        replica.take(4, ("copy", 1, 3, 0, 0, ((1, NONE), (3, ("members", (4,)))), 1))
        replica.shorten()
        self.assertEqual((replica.base[:3], replica.members), ((1, 1, (0, 4)), (4,)))

    def test_what_is_synced_stays(self):
        replica = with_log(0, [1, 1, 1], 0, 1)
        replica.take(1, ("copy", 1, 1, 3, 1, (), 2))
        replica.shorten()
        self.assertEqual((replica.base[0], replica.durable, replica.last_index), (2, 3, 3))

    def test_everything_is_applied(self):
        replica = with_log(0, [1, 2], 0, 1)
        replica.take(1, ("copy", 1, 2, 2, 2, (), 2))
        replica.shorten()
        self.assertEqual((replica.base[:3], replica.entries), ((2, 2, (0, 1)), []))
        self.assertEqual((replica.committed, replica.applied, replica.last_index), (2, 2, 2))

    def test_nothing_to_shorten(self):
        blank = Replica(0, 1, None)
        blank.shorten()
        self.assertIsNone(blank.base)
        self.assert_left(blank)
        replica = with_log(0, [1, 1], 0, 1)
        before = replica.base
        replica.shorten()
        self.assertEqual((replica.base, len(replica.entries)), (before, 2))
        replica.take(1, ("copy", 1, 1, 2, 1, (), 1))
        replica.shorten()
        emptied(replica)
        replica.shorten()
        self.assertEqual(replica.base[0], 1)
        self.assert_left(replica)

    def test_it_goes_on(self):
        replica = Replica(0, 0, counter_base(0))
        replica.stand()
        replica.synced()
        for n in range(3):
            self.assertTrue(replica.propose(("next",), n))
            replica.synced()
            replica.shorten()
            self.assertEqual(replica.base, (n + 2, 1, (0,), ("counter", n + 1)))
        self.assertEqual(emptied(replica)["answers"], [(0, ("time", 1)), (1, ("time", 2)), (2, ("time", 3))])

    def test_a_leader_with_an_answer_to_come(self):
        replica = leader(0, 1, 2)
        replica.propose(DROP, 7)
        replica.take(1, ("got", 1, 1, True, 1))
        replica.shorten()
        self.assertEqual((replica.base[0], replica.last_index), (1, 2))
        replica.synced()
        emptied(replica)
        replica.take(1, ("got", 1, 1, True, 2))
        self.assertEqual(emptied(replica)["answers"], [(7, ("decided", 0))])


if __name__ == "__main__":
    unittest.main()
