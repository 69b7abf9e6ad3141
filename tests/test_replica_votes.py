"""Points 19 to 22: replicas, their fields, their terms, and how a leader is elected."""

import unittest

from helpers import counter_base, emptied, table_base
from wholecloth.counter import Counter
from wholecloth.replica import Replica
from wholecloth.table import Table

FOUND = {"letters": [], "records": [], "answers": [], "births": [], "ledger": []}


def with_log(me, terms, *members):
    """A replica of group 1 whose entries have these terms."""
    replica = Replica(me, 1, table_base(*members))
    replica.entries = [(term, ("none",)) for term in terms]
    replica.durable = len(terms)
    replica.term = terms[-1] if terms else 0
    return replica


def leader(*members, me=0, group=1):
    """A replica that has been elected in term 1; its entry 1 is synced."""
    replica = Replica(me, group, table_base(*members))
    replica.stand()
    for member in members:
        if member != me and replica.role != "leader":
            replica.take(member, ("vote", group, 1, True))
    assert replica.role == "leader", replica.role
    replica.synced()
    emptied(replica)
    return replica


class ReplicaTest(unittest.TestCase):
    def assert_left(self, replica, **lists):
        """The replica has left just this for its machine."""
        self.assertEqual(emptied(replica), {**FOUND, **lists})

    def place(self, replica):
        """What a replica knows of terms and leaders."""
        return replica.term, replica.voted, replica.role, replica.leader


class Fields(ReplicaTest):
    def test_a_new_replica(self):
        base = table_base(0, 1, 2, index=7, term=3)
        replica = Replica(1, 4, base)
        self.assertEqual((replica.me, replica.group, replica.base, replica.entries), (1, 4, base, []))
        self.assertEqual(self.place(replica), (0, None, "follower", None))
        self.assertEqual((replica.committed, replica.applied, replica.durable, replica.last_index), (7, 7, 7, 7))
        self.assertEqual(replica.members, (0, 1, 2))
        self.assertIsInstance(replica.state, Table)
        self.assertEqual(replica.state.picture(), base[3])
        self.assert_left(replica)

    def test_a_blank_replica(self):
        replica = Replica(1, 4, None)
        self.assertEqual((replica.me, replica.group, replica.base, replica.entries), (1, 4, None, []))
        self.assertEqual(self.place(replica), (0, None, "follower", None))
        self.assertEqual((replica.committed, replica.applied, replica.durable, replica.last_index), (-1, -1, -1, -1))
        self.assertEqual((replica.members, replica.state), ((), None))
        self.assert_left(replica)

    def test_the_state_is_what_the_picture_shows(self):
        for group in (0, 1, 5):
            counter = Replica(0, group, counter_base(0, last=9)).state
            self.assertIsInstance(counter, Counter)
            self.assertEqual(counter.last, 9)
            table = Replica(0, group, table_base(0, low=3, high=8)).state
            self.assertIsInstance(table, Table)
            self.assertEqual((table.low, table.high), (3, 8))

    def test_the_members_are_those_of_the_last_members_entry(self):
        replica = Replica(0, 1, table_base(0, 1))
        replica.entries = [(1, ("none",)), (1, ("members", (0, 1, 2))), (1, ("none",))]
        self.assertEqual((replica.members, replica.last_index), ((0, 1, 2), 3))
        replica.entries = replica.entries + [(2, ("members", (1, 2))), (2, ("members",)), (2, ("members", (7,), 8))]
        self.assertEqual((replica.members, replica.last_index), ((1, 2), 6))

    def test_replicas_share_nothing(self):
        first, second = Replica(0, 1, table_base(0)), Replica(0, 1, table_base(0))
        first.stand()
        first.synced()
        first.propose(("drop", (0, 0, 0)), 1)
        self.assertEqual((second.entries, second.role, second.letters, second.records), ([], "follower", [], []))
        self.assertEqual(second.state.decision((0, 0, 0)), None)


class Stand(ReplicaTest):
    def test_it_asks_all_other_members(self):
        for me, others in ((0, (1, 2)), (1, (0, 2)), (2, (0, 1))):
            replica = Replica(me, 4, table_base(0, 1, 2, index=7, term=3))
            replica.term = 5
            replica.stand()
            self.assertEqual(self.place(replica), (6, me, "candidate", None))
            self.assert_left(replica, records=[("term", 4, 6, me)],
                             letters=[(other, ("ask", 4, 6, 7, 3)) for other in others])

    def test_it_tells_its_last_entry(self):
        replica = with_log(0, [1, 1, 4], 0, 1)
        replica.stand()
        self.assert_left(replica, records=[("term", 1, 5, 0)], letters=[(1, ("ask", 1, 5, 3, 4))])

    def test_it_may_stand_again(self):
        replica = Replica(0, 1, table_base(0, 1))
        replica.stand()
        emptied(replica)
        replica.stand()
        self.assertEqual(self.place(replica), (2, 0, "candidate", None))
        self.assert_left(replica, records=[("term", 1, 2, 0)], letters=[(1, ("ask", 1, 2, 0, 0))])

    def test_its_leader_is_forgotten(self):
        replica = Replica(0, 1, table_base(0, 1))
        replica.take(1, ("copy", 1, 1, 0, 0, (), 0))
        self.assertEqual(self.place(replica), (1, None, "follower", 1))
        replica.stand()
        self.assertEqual(self.place(replica), (2, 0, "candidate", None))

    def test_one_member_is_the_leader_at_once(self):
        replica = Replica(0, 1, table_base(0, index=2, term=1))
        replica.stand()
        self.assertEqual(self.place(replica), (1, 0, "leader", 0))
        self.assertEqual(replica.entries, [(1, ("none",))])
        self.assertEqual((replica.durable, replica.committed), (2, 2))
        self.assert_left(replica, records=[("term", 1, 1, 0), ("entry", 1, 3, 1, ("none",))])
        replica.synced()
        self.assertEqual((replica.durable, replica.committed, replica.applied), (3, 3, 3))
        self.assert_left(replica, ledger=[(3, ("none",))])

    def test_a_stranger_stands_but_does_not_count_itself(self):
        replica = Replica(7, 1, table_base(0, 1, 2))
        replica.stand()
        self.assertEqual([receiver for receiver, _ in emptied(replica)["letters"]], [0, 1, 2])
        replica.take(0, ("vote", 1, 1, True))
        self.assertEqual(replica.role, "candidate")
        replica.take(2, ("vote", 1, 1, True))
        self.assertEqual(self.place(replica), (1, 7, "leader", 7))
        alone = Replica(7, 1, table_base(0))
        alone.stand()
        self.assertEqual(alone.role, "candidate")
        alone.take(0, ("vote", 1, 1, True))
        self.assertEqual(alone.role, "leader")

    def test_a_leader_does_not_stand(self):
        replica = leader(0, 1, 2)
        replica.stand()
        self.assertEqual(self.place(replica), (1, 0, "leader", 0))
        self.assert_left(replica)

    def test_a_blank_one_does_not_stand(self):
        replica = Replica(0, 1, None)
        replica.stand()
        self.assertEqual(self.place(replica), (0, None, "follower", None))
        self.assert_left(replica)


class Votes(ReplicaTest):
    def test_the_majorities(self):
        for many, needed in ((1, 0), (2, 1), (3, 1), (4, 2), (5, 2)):
            for me in range(many):
                replica = Replica(me, 1, table_base(*range(many)))
                replica.stand()
                others = [member for member in range(many) if member != me]
                for count, member in enumerate(others):
                    self.assertEqual(replica.role == "leader", count >= needed, (many, me, count))
                    replica.take(member, ("vote", 1, 1, True))
                self.assertEqual(replica.role, "leader")

    def test_a_new_leader_sends_its_first_entry(self):
        replica = with_log(0, [1, 2], 0, 1, 2)
        replica.stand()
        emptied(replica)
        replica.take(2, ("vote", 1, 3, True))
        self.assertEqual(self.place(replica), (3, 0, "leader", 0))
        self.assertEqual(replica.entries[2:], [(3, ("none",))])
        letter = ("copy", 1, 3, 2, 2, ((3, ("none",)),), 0)
        self.assert_left(replica, records=[("entry", 1, 3, 3, ("none",))], letters=[(1, letter), (2, letter)])

    def test_votes_that_do_not_count(self):
        replica = Replica(0, 1, table_base(0, 1, 2, 3, 4))
        replica.stand()
        emptied(replica)
        replica.take(1, ("vote", 1, 1, True))
        for sender, letter in ((1, ("vote", 1, 1, True)), (2, ("vote", 1, 1, False)), (7, ("vote", 1, 1, True)),
                               (101, ("vote", 1, 1, True)), (2, ("vote", 1, 0, True))):
            replica.take(sender, letter)
            self.assertEqual(self.place(replica), (1, 0, "candidate", None), (sender, letter))
        self.assert_left(replica)
        replica.take(3, ("vote", 1, 1, True))
        self.assertEqual(replica.role, "leader")

    def test_votes_of_an_elder_candidacy_do_not_count(self):
        replica = Replica(0, 1, table_base(0, 1, 2, 3, 4))
        replica.stand()
        replica.take(1, ("vote", 1, 1, True))
        replica.stand()
        replica.take(2, ("vote", 1, 2, True))
        self.assertEqual(replica.role, "candidate")
        replica.take(1, ("vote", 1, 1, True))
        self.assertEqual(replica.role, "candidate")
        replica.take(1, ("vote", 1, 2, True))
        self.assertEqual(replica.role, "leader")

    def test_only_a_candidate_counts(self):
        replica = Replica(0, 1, table_base(0, 1, 2))
        replica.term = 1
        replica.take(1, ("vote", 1, 1, True))
        replica.take(2, ("vote", 1, 1, True))
        self.assertEqual(self.place(replica), (1, None, "follower", None))
        chosen = leader(0, 1, 2)
        chosen.take(2, ("vote", 1, 1, True))
        self.assertEqual(self.place(chosen), (1, 0, "leader", 0))
        self.assertEqual(len(chosen.entries), 1)
        self.assert_left(chosen)

    def test_a_late_vote_makes_no_leader_of_one_that_follows(self):
        replica = Replica(0, 1, table_base(0, 1, 2))
        replica.stand()
        replica.take(1, ("copy", 1, 1, 0, 0, (), 0))
        emptied(replica)
        replica.take(2, ("vote", 1, 1, True))
        self.assertEqual(self.place(replica), (1, 0, "follower", 1))
        self.assert_left(replica)


class Asked(ReplicaTest):
    def ask(self, replica, sender, term, last_index, last_term):
        replica.take(sender, ("ask", replica.group, term, last_index, last_term))
        letters = emptied(replica)["letters"]
        self.assertEqual(len(letters), 1)
        receiver, letter = letters[0]
        self.assertEqual((receiver, letter[:3]), (sender, ("vote", replica.group, replica.term)))
        self.assertEqual(len(letter), 4)
        return letter[3]

    def test_logs_that_are_as_new(self):
        for index, term, granted in ((3, 4, True), (2, 4, False), (4, 4, True), (0, 5, True), (9, 3, False),
                                     (3, 3, False), (0, 0, False)):
            self.assertIs(self.ask(with_log(0, [1, 1, 4], 0, 1), 1, 5, index, term), granted, (index, term))

    def test_the_base_counts_where_no_entry_follows(self):
        for index, term, granted in ((7, 3, True), (6, 3, False), (0, 4, True), (9, 2, False)):
            replica = Replica(0, 1, table_base(0, 1, index=7, term=3))
            self.assertIs(self.ask(replica, 1, 5, index, term), granted, (index, term))

    def test_a_granted_vote_is_recorded(self):
        replica = Replica(0, 3, table_base(0, 1, 2))
        replica.take(1, ("ask", 3, 4, 0, 0))
        self.assertEqual(self.place(replica), (4, 1, "follower", None))
        self.assert_left(replica, records=[("term", 3, 4, None), ("term", 3, 4, 1)],
                         letters=[(1, ("vote", 3, 4, True))])

    def test_a_vote_in_the_same_term_is_one_record(self):
        replica = Replica(0, 3, table_base(0, 1, 2))
        replica.term = 4
        replica.take(1, ("ask", 3, 4, 0, 0))
        self.assert_left(replica, records=[("term", 3, 4, 1)], letters=[(1, ("vote", 3, 4, True))])

    def test_a_vote_that_is_granted_again_is_not_recorded(self):
        replica = Replica(0, 3, table_base(0, 1, 2))
        replica.take(1, ("ask", 3, 4, 0, 0))
        emptied(replica)
        replica.take(1, ("ask", 3, 4, 0, 0))
        self.assert_left(replica, letters=[(1, ("vote", 3, 4, True))])

    def test_nobody_else_gets_it(self):
        replica = Replica(0, 3, table_base(0, 1, 2))
        replica.take(1, ("ask", 3, 4, 0, 0))
        emptied(replica)
        replica.take(2, ("ask", 3, 4, 9, 9))
        self.assertEqual(self.place(replica), (4, 1, "follower", None))
        self.assert_left(replica, letters=[(2, ("vote", 3, 4, False))])

    def test_one_that_voted_for_the_sender_still_compares_the_logs(self):
        replica = Replica(0, 3, table_base(0, 1, 2))
        replica.take(1, ("ask", 3, 4, 0, 0))
        replica.take(1, ("copy", 3, 4, 0, 0, ((4, ("none",)),), 0))
        emptied(replica)
        replica.take(1, ("ask", 3, 4, 0, 0))
        self.assert_left(replica, letters=[(1, ("vote", 3, 4, False))])

    def test_a_refusal_in_a_greater_term_takes_the_term(self):
        replica = with_log(0, [1, 1], 0, 1)
        replica.take(1, ("ask", 1, 4, 1, 1))
        self.assertEqual(self.place(replica), (4, None, "follower", None))
        self.assert_left(replica, records=[("term", 1, 4, None)], letters=[(1, ("vote", 1, 4, False))])

    def test_candidates_and_leaders_have_voted_for_themselves(self):
        candidate = Replica(0, 1, table_base(0, 1, 2))
        candidate.stand()
        emptied(candidate)
        for replica in (candidate, leader(0, 1, 2)):
            role = replica.role
            replica.take(1, ("ask", 1, 1, 9, 9))
            self.assertEqual((replica.term, replica.voted, replica.role), (1, 0, role))
            self.assert_left(replica, letters=[(1, ("vote", 1, 1, False))])

    def test_a_stranger_may_be_voted_for(self):
        replica = Replica(0, 1, table_base(0, 1))
        self.assertTrue(self.ask(replica, 305, 2, 0, 0))
        self.assertEqual(replica.voted, 305)

    def test_a_blank_one_votes(self):
        replica = Replica(0, 6, None)
        replica.take(1, ("ask", 6, 2, 0, 0))
        self.assertEqual(self.place(replica), (2, 1, "follower", None))
        self.assert_left(replica, records=[("term", 6, 2, None), ("term", 6, 2, 1)],
                         letters=[(1, ("vote", 6, 2, True))])
        self.assertFalse(self.ask(Replica(0, 6, None), 1, 2, -2, 0))
        self.assertTrue(self.ask(Replica(0, 6, None), 1, 2, -1, 0))


LETTERS = {
    "ask": lambda term: ("ask", 1, term, 9, 9),
    "vote": lambda term: ("vote", 1, term, True),
    "copy": lambda term: ("copy", 1, term, 0, 0, (), 0),
    "base": lambda term: ("base", 1, term, table_base(0, 1, 2, index=50, term=1)),
    "got": lambda term: ("got", 1, term, True, 1),
}


def in_each_role():
    """Replicas in term 3, one of each role, and a blank one."""
    made = []
    for role in ("follower", "candidate", "leader", "blank"):
        replica = Replica(0, 1, None if role == "blank" else table_base(0, 1, 2, index=5, term=1))
        if role == "blank":
            replica.term = 3
        else:
            replica.term = 2
            replica.stand()
        if role == "follower":
            replica.take(2, ("copy", 1, 3, 5, 1, (), 5))
        if role == "leader":
            replica.take(1, ("vote", 1, 3, True))
        emptied(replica)
        made.append(replica)
    return made


class Terms(ReplicaTest):
    def test_letters_of_lesser_terms(self):
        for replica in in_each_role():
            last = replica.last_index
            before = (self.place(replica), list(replica.entries), replica.base, replica.committed)
            for word, answers in (("vote", []), ("got", []), ("ask", [("vote", 1, 3, False)]),
                                  ("copy", [("got", 1, 3, False, last)]), ("base", [("got", 1, 3, False, last)])):
                for term in (0, 2):
                    replica.take(1, LETTERS[word](term))
                    after = (self.place(replica), list(replica.entries), replica.base, replica.committed)
                    self.assertEqual(after, before, (word, term))
                    self.assert_left(replica, letters=[(1, letter) for letter in answers])

    def test_letters_of_greater_terms(self):
        leaders = {"ask": None, "vote": None, "got": None, "copy": 1, "base": 1}
        for word, known in leaders.items():
            for replica in in_each_role():
                replica.take(1, LETTERS[word](8))
                voted = 1 if word == "ask" else None
                self.assertEqual(self.place(replica), (8, voted, "follower", known), word)
                self.assertEqual(emptied(replica)["records"][0], ("term", 1, 8, None), word)

    def test_votes_and_gots_of_greater_terms_do_nothing_else(self):
        for word in ("vote", "got"):
            for replica in in_each_role():
                before = (list(replica.entries), replica.base, replica.committed)
                replica.take(1, LETTERS[word](8))
                self.assertEqual((list(replica.entries), replica.base, replica.committed), before)
                self.assert_left(replica, records=[("term", 1, 8, None)])

    def test_the_answers_carry_its_own_term(self):
        replica = Replica(0, 1, table_base(0, 1, 2))
        replica.take(1, ("copy", 1, 6, 0, 0, (), 0))
        self.assert_left(replica, records=[("term", 1, 6, None)], letters=[(1, ("got", 1, 6, True, 0))])
        replica.take(2, ("copy", 1, 5, 0, 0, (), 0))
        self.assert_left(replica, letters=[(2, ("got", 1, 6, False, 0))])
        self.assertEqual(replica.leader, 1)

    def test_a_leader_or_candidate_follows_a_copy_of_its_own_term(self):
        for letter in (LETTERS["copy"](3), LETTERS["base"](3)):
            for replica in in_each_role():
                replica.take(2, letter)
                self.assertEqual((replica.term, replica.role, replica.leader), (3, "follower", 2))

    def test_a_term_may_be_skipped(self):
        replica = Replica(0, 1, table_base(0, 1, 2))
        replica.take(1, ("vote", 1, 10 ** 20, False))
        replica.stand()
        self.assertEqual(replica.term, 10 ** 20 + 1)


if __name__ == "__main__":
    unittest.main()
