"""Points 22 to 24: what leaders accept and answer, how members change, and the births of split groups."""

import copy
import unittest

from helpers import counter_base, emptied, table_base
from test_replica_votes import ReplicaTest, leader, with_log
from wholecloth.replica import Replica
from wholecloth.table import Table

NONE = ("none",)
DROP = ("drop", (0, 0, 0))


class Propose(ReplicaTest):
    def test_the_leader_appends_and_sends(self):
        replica = leader(0, 1, 2)
        self.assertIs(replica.propose(DROP, 7), True)
        self.assertEqual(replica.entries, [(1, NONE), (1, DROP)])
        letter = ("copy", 1, 1, 0, 0, ((1, NONE), (1, DROP)), 0)
        self.assert_left(replica, records=[("entry", 1, 2, 1, DROP)], letters=[(1, letter), (2, letter)])
        self.assertEqual((replica.durable, replica.committed), (1, 0))

    def test_nobody_else_does(self):
        candidate = Replica(0, 1, table_base(0, 1, 2))
        candidate.stand()
        emptied(candidate)
        follower = with_log(0, [1], 0, 1)
        follower.take(1, ("copy", 1, 1, 1, 1, (), 0))
        emptied(follower)
        for replica in (candidate, follower, Replica(0, 1, None), Replica(0, 1, table_base(0))):
            many = len(replica.entries)
            self.assertIs(replica.propose(DROP, 7), False)
            self.assertIs(replica.propose(("members", (0, 1, 2, 3)), 7), False)
            self.assertEqual(len(replica.entries), many)
            self.assert_left(replica)

    def test_wrong_commands_are_accepted_too(self):
        replica = leader(0)
        commands = [("next",), ("unknown",), ("read", 1), ("members",), ("members", (0, 1), 2), ("time", 3)]
        for n, command in enumerate(commands):
            self.assertIs(replica.propose(command, n), True)
        replica.synced()
        self.assertEqual(emptied(replica)["answers"], [(n, ("unknown",)) for n in range(len(commands))])
        self.assertEqual(replica.members, (0,))

    def test_the_letters_go_on_from_what_is_known(self):
        replica = leader(0, 1, 2)
        replica.take(1, ("got", 1, 1, True, 1))
        emptied(replica)
        replica.propose(DROP, 7)
        self.assertEqual([letter[3:5] for _, letter in emptied(replica)["letters"]], [(1, 1), (0, 0)])


class Answers(ReplicaTest):
    def test_the_answer_comes_when_the_entry_is_applied(self):
        replica = leader(0, 1, 2)
        replica.propose(DROP, "a")
        replica.propose(("read", (1, 0, 0), 3, 0, 10), ("b", 1))
        replica.synced()
        self.assert_left(replica, records=[("entry", 1, 2, 1, DROP), ("entry", 1, 3, 1, ("read", (1, 0, 0), 3, 0, 10))],
                         letters=[(member, ("copy", 1, 1, 0, 0, tuple(replica.entries[:many]), 0))
                                  for many in (2, 3) for member in (1, 2)])
        replica.take(2, ("got", 1, 1, True, 2))
        self.assert_left(replica, answers=[("a", ("decided", 0))], ledger=[(1, NONE), (2, DROP)])
        replica.take(1, ("got", 1, 1, True, 3))
        self.assert_left(replica, answers=[(("b", 1), ("rows", ()))],
                         ledger=[(3, ("read", (1, 0, 0), 3, 0, 10))])
        replica.take(2, ("got", 1, 1, True, 3))
        self.assert_left(replica)

    def test_only_its_own_proposals_are_answered(self):
        replica = leader(0)
        self.assertEqual(replica.applied, 1)
        self.assert_left(replica)

    def test_not_when_the_term_is_another_one(self):
        replica = leader(0, 1, 2)
        replica.propose(DROP, 7)
        replica.take(1, ("vote", 1, 2, False))
        replica.take(1, ("copy", 1, 2, 2, 1, (), 2))
        left = emptied(replica)
        self.assertEqual((left["answers"], [index for index, _ in left["ledger"]]), ([], [1, 2]))

    def test_not_when_it_is_the_leader_again(self):
        replica = leader(0, 1, 2)
        replica.propose(DROP, 7)
        replica.take(1, ("vote", 1, 2, False))
        replica.stand()
        replica.take(1, ("vote", 1, 3, True))
        replica.propose(("drop", (0, 1, 0)), 8)
        replica.synced()
        replica.take(1, ("got", 1, 3, True, 4))
        self.assertEqual(emptied(replica)["answers"], [(8, ("decided", 0))])

    def test_not_those_that_were_replaced(self):
        replica = leader(0, 1, 2)
        replica.propose(DROP, 7)
        replica.take(2, ("copy", 1, 2, 1, 1, ((2, ("drop", (5, 5, 5))),), 2))
        replica.stand()
        replica.take(1, ("vote", 1, 3, True))
        replica.synced()
        replica.take(1, ("got", 1, 3, True, 3))
        self.assertEqual(emptied(replica)["answers"], [])

    def test_a_leader_that_follows_in_its_own_term_does_not_answer(self):
        replica = leader(0, 1, 2)
        replica.propose(DROP, 7)
        replica.take(1, ("copy", 1, 1, 2, 1, (), 2))
        left = emptied(replica)
        self.assertEqual((left["answers"], len(left["ledger"])), ([], 2))

    def test_the_answer_of_a_members_command(self):
        replica = leader(0)
        replica.propose(("members", (0, 1)), 7)
        replica.synced()
        replica.take(1, ("got", 1, 1, True, 2))
        left = emptied(replica)
        self.assertEqual((left["answers"], left["ledger"]), ([(7, NONE)], [(2, ("members", (0, 1)))]))

    def test_a_counter(self):
        replica = Replica(0, 0, counter_base(0))
        replica.stand()
        replica.propose(("next",), 1)
        replica.propose(("split", 500, 2), 2)
        replica.propose(("next",), 3)
        replica.synced()
        left = emptied(replica)
        self.assertEqual(left["answers"], [(1, ("time", 1)), (2, ("unknown",)), (3, ("time", 2))])
        self.assertEqual(left["births"], [])


class Members(ReplicaTest):
    def test_what_is_accepted(self):
        for identities in ((0, 1, 2, 3), (0, 1), (1, 2), (0, 2), (0, 1, 2, 105)):
            replica = leader(0, 1, 2)
            replica.take(1, ("got", 1, 1, True, 1))
            self.assertIs(replica.propose(("members", identities), 7), True, identities)
            self.assertEqual(replica.members, identities)

    def test_what_is_not(self):
        wrong = [
            (), (0, 1, 2), (0,), (0, 3), (0, 1, 3), (0, 1, 2, 3, 4), (0, 2, 1, 3), (1, 0), (0, 1, 2, 2), (0, 0, 1, 2),
            (3, 0, 1, 2), (0, 1, 1), [0, 1], [0, 1, 2, 3], None, 3, (0, None), ("none", 1), (0, True), (0, 1, 2, (3,)),
        ]
        for identities in wrong:
            replica = leader(0, 1, 2)
            replica.take(1, ("got", 1, 1, True, 1))
            emptied(replica)
            self.assertIs(replica.propose(("members", identities), 7), False, identities)
            self.assertEqual((replica.members, len(replica.entries)), ((0, 1, 2), 1))
            self.assert_left(replica)

    def test_one_to_five(self):
        full = leader(0, 1, 2, 3, 4)
        full.take(1, ("got", 1, 1, True, 1))
        full.take(2, ("got", 1, 1, True, 1))
        self.assertFalse(full.propose(("members", (0, 1, 2, 3, 4, 5)), 7))
        self.assertTrue(full.propose(("members", (0, 1, 2, 3)), 7))
        four = leader(0, 1, 2, 3)
        four.take(1, ("got", 1, 1, True, 1))
        four.take(2, ("got", 1, 1, True, 1))
        self.assertTrue(four.propose(("members", (0, 1, 2, 3, 4)), 7))
        last = leader(0)
        self.assertFalse(last.propose(("members", ()), 7))
        self.assertTrue(last.propose(("members", (0, 8)), 7))

    def test_the_last_one_is_committed(self):
        replica = leader(0, 1, 2)
        replica.take(1, ("got", 1, 1, True, 1))
        self.assertTrue(replica.propose(("members", (0, 1)), 7))
        self.assertFalse(replica.propose(("members", (0, 1, 2)), 8))
        self.assertTrue(replica.propose(DROP, 9))
        replica.synced()
        self.assertFalse(replica.propose(("members", (0, 1, 2)), 8))
        replica.take(1, ("got", 1, 1, True, 2))
        self.assertTrue(replica.propose(("members", (0, 1, 2)), 8))

    def test_its_own_term_is_committed(self):
        replica = leader(0, 1, 2)
        self.assertFalse(replica.propose(("members", (0, 1)), 7))
        replica.take(1, ("got", 1, 1, True, 1))
        self.assertTrue(replica.propose(("members", (0, 1)), 7))

    def test_an_elder_term_is_not_enough(self):
        replica = with_log(0, [1, 1], 0, 1, 2)
        replica.take(1, ("copy", 1, 1, 2, 1, (), 2))
        replica.stand()
        replica.take(1, ("vote", 1, 2, True))
        replica.synced()
        self.assertEqual(replica.committed, 2)
        self.assertFalse(replica.propose(("members", (0, 1)), 7))
        replica.take(1, ("got", 1, 2, True, 3))
        self.assertTrue(replica.propose(("members", (0, 1)), 7))

    def test_the_base_may_be_what_is_committed(self):
        replica = leader(0)
        replica.shorten()
        self.assertEqual((replica.base[:2], replica.committed), ((1, 1), 1))
        self.assertTrue(replica.propose(("members", (0, 1)), 7))
        elder = Replica(0, 1, table_base(0, index=4, term=3))
        elder.term = 3
        elder.stand()
        self.assertFalse(elder.propose(("members", (0, 1)), 7))

    def test_members_by_the_base_need_no_entry(self):
        replica = leader(0)
        self.assertTrue(replica.propose(("members", (0, 1)), 7))
        replica.synced()
        replica.take(1, ("got", 1, 1, True, 2))
        replica.shorten()
        self.assertEqual((replica.base[2], replica.entries), ((0, 1), []))
        self.assertTrue(replica.propose(("members", (0,)), 8))

    def test_it_is_sent_to_the_changed_members(self):
        replica = leader(0, 1)
        replica.take(1, ("got", 1, 1, True, 1))
        emptied(replica)
        change = ("members", (0, 1, 3))
        replica.propose(change, 7)
        letter = ("copy", 1, 1, 1, 1, ((1, change),), 1)
        self.assert_left(replica, records=[("entry", 1, 2, 1, change)], letters=[(1, letter), (3, letter)])

    def test_a_new_member_has_nothing(self):
        replica = leader(0, 1)
        replica.take(1, ("got", 1, 1, True, 1))
        replica.propose(("members", (0, 1, 3)), 7)
        replica.synced()
        replica.take(1, ("got", 1, 1, True, 2))
        self.assertEqual(replica.committed, 2)
        emptied(replica)
        replica.take(3, ("got", 1, 1, False, -1))
        self.assertEqual(emptied(replica)["letters"], [(3, ("base", 1, 1, replica.base))])
        replica.take(3, ("got", 1, 1, True, 0))
        replica.nudge()
        self.assertEqual([(receiver, letter[3]) for receiver, letter in emptied(replica)["letters"]], [(1, 2), (3, 0)])

    def test_one_that_comes_back_is_new(self):
        replica = leader(0, 1, 2)
        for member in (1, 2):
            replica.take(member, ("got", 1, 1, True, 1))
        replica.propose(("members", (0, 1)), 7)
        replica.synced()
        replica.take(1, ("got", 1, 1, True, 2))
        replica.take(2, ("got", 1, 1, True, 1))
        emptied(replica)
        replica.propose(("members", (0, 1, 2)), 8)
        letters = emptied(replica)["letters"]
        self.assertEqual([(receiver, letter[3]) for receiver, letter in letters], [(1, 2), (2, 2)])
        self.assertEqual(replica.known[2], -1)

    def test_a_removed_member_is_sent_nothing_and_does_not_count(self):
        replica = leader(0, 1, 2)
        replica.take(1, ("got", 1, 1, True, 1))
        emptied(replica)
        replica.propose(("members", (0, 1)), 7)
        self.assertEqual([receiver for receiver, _ in emptied(replica)["letters"]], [1])
        replica.synced()
        replica.take(2, ("got", 1, 1, True, 2))
        self.assertEqual(replica.committed, 1)
        replica.nudge()
        self.assertEqual([receiver for receiver, _ in emptied(replica)["letters"]], [1])
        replica.take(1, ("got", 1, 1, True, 2))
        self.assertEqual(replica.committed, 2)

    def test_the_new_members_count_at_once(self):
        replica = leader(0, 1)
        replica.take(1, ("got", 1, 1, True, 1))
        replica.propose(("members", (0, 1, 3)), 7)
        replica.propose(DROP, 8)
        replica.synced()
        self.assertEqual(replica.committed, 1)
        replica.take(3, ("got", 1, 1, True, 3))
        self.assertEqual(replica.committed, 3)

    def test_a_leader_that_has_removed_itself(self):
        replica = leader(0, 1, 2)
        replica.take(1, ("got", 1, 1, True, 1))
        emptied(replica)
        self.assertTrue(replica.propose(("members", (1, 2)), 7))
        self.assertEqual([receiver for receiver, _ in emptied(replica)["letters"]], [1, 2])
        replica.synced()
        replica.take(1, ("got", 1, 1, True, 2))
        self.assertEqual((replica.committed, replica.role), (1, "leader"))
        self.assertTrue(replica.propose(DROP, 8))
        self.assertEqual([receiver for receiver, _ in emptied(replica)["letters"]], [1, 2])
        replica.take(2, ("got", 1, 1, True, 2))
        self.assertEqual((replica.committed, replica.role), (2, "leader"))
        self.assertEqual(emptied(replica)["answers"], [(7, NONE)])
        replica.nudge()
        self.assertEqual([receiver for receiver, _ in emptied(replica)["letters"]], [1, 2])

    def test_it_may_come_back(self):
        replica = leader(0, 1)
        replica.take(1, ("got", 1, 1, True, 1))
        replica.propose(("members", (1,)), 7)
        replica.take(1, ("got", 1, 1, True, 2))
        self.assertEqual(replica.committed, 2)
        self.assertTrue(replica.propose(("members", (0, 1)), 8))
        self.assertEqual(replica.members, (0, 1))
        replica.take(1, ("got", 1, 1, True, 3))
        self.assertEqual(replica.committed, 2)
        replica.synced()
        self.assertEqual(replica.committed, 3)

    def test_an_uncommitted_change_counts_in_elections(self):
        replica = leader(0, 1, 2)
        replica.take(1, ("got", 1, 1, True, 1))
        replica.propose(("members", (0, 1)), 7)
        replica.take(2, ("vote", 1, 4, False))
        emptied(replica)
        replica.stand()
        self.assertEqual([receiver for receiver, _ in emptied(replica)["letters"]], [1])
        replica.take(2, ("vote", 1, 5, True))
        self.assertEqual(replica.role, "candidate")
        replica.take(1, ("vote", 1, 5, True))
        self.assertEqual(replica.role, "leader")

    def test_a_change_that_is_replaced_is_undone(self):
        replica = with_log(0, [1], 0, 1)
        replica.take(1, ("copy", 1, 1, 1, 1, ((1, ("members", (0, 1, 2))),), 0))
        self.assertEqual(replica.members, (0, 1, 2))
        replica.take(1, ("copy", 1, 2, 1, 1, ((2, NONE),), 0))
        self.assertEqual(replica.members, (0, 1))


class Nudge(ReplicaTest):
    def test_the_leader_sends_to_all_others(self):
        replica = leader(1, 2, 4, me=2)
        replica.nudge()
        letter = ("copy", 1, 1, 0, 0, ((1, NONE),), 0)
        self.assert_left(replica, letters=[(1, letter), (4, letter)])
        replica.take(4, ("got", 1, 1, True, 1))
        emptied(replica)
        replica.nudge()
        self.assert_left(replica, letters=[(1, ("copy", 1, 1, 0, 0, ((1, NONE),), 1)),
                                           (4, ("copy", 1, 1, 1, 1, (), 1))])

    def test_sending_does_not_change_the_next_index(self):
        replica = leader(0, 1)
        replica.nudge()
        first = emptied(replica)["letters"]
        replica.nudge()
        self.assertEqual(emptied(replica)["letters"], first)

    def test_others_do_nothing(self):
        candidate = Replica(0, 1, table_base(0, 1, 2))
        candidate.stand()
        emptied(candidate)
        for replica in (candidate, with_log(0, [1], 0, 1), Replica(0, 1, None)):
            replica.nudge()
            self.assert_left(replica)


class Births(ReplicaTest):
    def test_a_split_bears_a_group(self):
        replica = leader(0, 1, 2)
        replica.propose(("prepare", (0, 0, 0), 1, ((400, 600),), ((5, 6), (550, 7)), 1), 1)
        replica.propose(("split", 500, 2), 2)
        replica.propose(("drop", (0, 0, 0)), 3)
        replica.synced()
        replica.take(1, ("got", 1, 1, True, 4))
        left = emptied(replica)
        picture = ("table", 500, 1000, (), (((0, 0, 0), 1, ((500, 600),), ((550, 7),), 1),), (), ())
        self.assertEqual(left["births"], [(2, (0, 0, (0, 1, 2), picture))])
        self.assertEqual(left["answers"][1], (2, ("split", 500, 2)))
        self.assertEqual((replica.state.low, replica.state.high), (0, 500))

    def test_followers_bear_it_too(self):
        replica = Replica(0, 1, table_base(0, 1))
        replica.take(1, ("copy", 1, 1, 0, 0, ((1, ("split", 500, 2)), (1, ("split", 300, 3))), 1))
        self.assertEqual(emptied(replica)["births"], [(2, (0, 0, (0, 1), Table(500, 1000).picture()))])
        replica.take(1, ("copy", 1, 1, 2, 1, (), 2))
        self.assertEqual(emptied(replica)["births"], [(3, (0, 0, (0, 1), Table(300, 500).picture()))])

    def test_the_members_are_those_up_to_the_split(self):
        replica = Replica(0, 1, table_base(0, 1))
        pairs = ((1, ("members", (0, 1, 2))), (1, ("split", 500, 2)), (1, ("members", (0, 1))))
        replica.take(1, ("copy", 1, 1, 0, 0, pairs, 3))
        self.assertEqual(emptied(replica)["births"], [(2, (0, 0, (0, 1, 2), Table(500, 1000).picture()))])

    def test_a_split_that_fails_bears_nothing(self):
        replica = Replica(0, 1, table_base(0, 1))
        pairs = ((1, ("split", 0, 2)), (1, ("split", 1000, 2)), (1, ("split", 500)), (1, ("split", 500, 2, 3)))
        replica.take(1, ("copy", 1, 1, 0, 0, pairs, 4))
        left = emptied(replica)
        self.assertEqual((left["births"], len(left["ledger"])), ([], 4))


class Adopt(ReplicaTest):
    def test_a_blank_one_gets_its_base(self):
        replica = Replica(0, 2, None)
        replica.take(3, ("ask", 2, 6, 0, 0))
        emptied(replica)
        base = table_base(0, 1, low=500)
        replica.adopt(base)
        self.assertEqual(self.place(replica), (6, 3, "follower", None))
        self.assertEqual((replica.base, replica.entries, replica.members), (base, [], (0, 1)))
        self.assertEqual((replica.committed, replica.applied, replica.durable, replica.last_index), (0, 0, 0, 0))
        self.assertEqual(replica.state.picture(), base[3])
        self.assert_left(replica, records=[("base", 2, base)])

    def test_one_that_is_not_blank_keeps_its_own(self):
        base = table_base(0, 1)
        replica = Replica(0, 2, base)
        replica.adopt(table_base(5, index=9))
        self.assertEqual((replica.base, replica.committed), (base, 0))
        self.assert_left(replica)


class Arguments(ReplicaTest):
    def test_they_stay_as_they_were(self):
        base = table_base(0, 1)
        command = ("prepare", (0, 0, 0), 1, ((5, 6),), ((5, 7),), 1)
        letters = [("copy", 1, 1, 0, 0, ((1, command),), 1), ("base", 1, 1, table_base(0, index=9)),
                   ("ask", 1, 2, 9, 9), ("got", 1, 2, False, 3), ("vote", 1, 2, True)]
        before = copy.deepcopy((base, command, letters))
        replica = Replica(0, 1, base)
        for letter in letters:
            replica.take(1, letter)
        replica.stand()
        replica.propose(command, 1)
        self.assertEqual((base, command, letters), before)


if __name__ == "__main__":
    unittest.main()
