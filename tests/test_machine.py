"""Points 25 to 28: machines, what waits for their disks, and what they have when they start again."""

import copy
import unittest

from helpers import counter_base, table_base
from wholecloth.disk import Disk
from wholecloth.journal import Journal
from wholecloth.machine import Machine, found
from wholecloth.replica import Replica
from wholecloth.table import Table

NONE = ("none",)
DROP = ("drop", (0, 0, 0))


def on_disk(*records):
    """A disk with a journal of these records, synced."""
    disk = Disk()
    journal = Journal(disk)
    for record in records:
        journal.enter(record)
    disk.sync()
    return disk


def to(identity, *letter):
    return (("machine", identity), letter)


def told(client, token, answer):
    return (("clerk", client), ("told", token, answer))


def lost(client, token, number):
    return (("clerk", client), ("lost", token, number))


def alone(*groups):
    """A machine that is the only member of groups and leads them; its disk is synced."""
    machine = found(0, Disk(), [(group, table_base(0) if group else counter_base(0)) for group in groups])
    for group in groups:
        machine.stand(group)
    machine.sync()
    machine.released()
    machine.applied()
    return machine


def memory(machine):
    """What a machine knows that outlives a crash, if everything is synced."""
    return {group: (replica.term, replica.voted, replica.base, replica.entries, replica.members)
            for group, replica in machine.replicas.items()}


class Found(unittest.TestCase):
    def test_the_records(self):
        disk = Disk()
        groups = [(0, counter_base(0, 1)), (1, table_base(0, 1))]
        before = copy.deepcopy(groups)
        machine = found(100, disk, groups)
        self.assertEqual(groups, before)
        records = [("make", 0, groups[0][1]), ("make", 1, groups[1][1])]
        self.assertEqual((machine.identity, machine.disk), (100, disk))
        self.assertEqual(machine.journal.records, records)
        self.assertEqual(disk.waiting, 0)
        disk.crash([])
        self.assertEqual(Journal(disk).records, records)
        self.assertEqual(sorted(machine.replicas), [0, 1])
        self.assertEqual((machine.released(), machine.applied()), ([], []))

    def test_the_replicas(self):
        machine = found(102, Disk(), [(3, table_base(0, 102, low=5)), (0, None)])
        replica = machine.replicas[3]
        self.assertIsInstance(replica, Replica)
        self.assertEqual((replica.me, replica.group, replica.base), (102, 3, table_base(0, 102, low=5)))
        self.assertEqual((replica.term, replica.role, replica.durable, replica.committed), (0, "follower", 0, 0))
        self.assertIsNone(machine.replicas[0].base)

    def test_nothing(self):
        disk = Disk()
        machine = found(0, disk, [])
        self.assertEqual((machine.replicas, disk.size, disk.waiting), ({}, 0, 0))


class Starts(unittest.TestCase):
    def start(self, *records):
        disk = on_disk(*records)
        before = (disk.size, disk.readable())
        machine = Machine(0, disk)
        self.assertEqual((disk.size, disk.readable(), disk.waiting), before + (0,))
        self.assertEqual((machine.released(), machine.applied()), ([], []))
        return machine

    def test_an_empty_disk(self):
        machine = self.start()
        self.assertEqual((machine.replicas, machine.journal.records), ({}, []))

    def test_terms_and_votes(self):
        replica = self.start(("make", 1, table_base(0, 1)), ("term", 1, 3, None), ("term", 1, 3, 1)).replicas[1]
        self.assertEqual((replica.term, replica.voted, replica.role, replica.leader), (3, 1, "follower", None))

    def test_entries(self):
        replica = self.start(
            ("make", 1, table_base(0, 1, index=4, term=2)), ("entry", 1, 5, 2, DROP),
            ("entry", 1, 6, 2, ("members", (0, 1, 2))), ("entry", 1, 7, 3, NONE)).replicas[1]
        self.assertEqual(replica.entries, [(2, DROP), (2, ("members", (0, 1, 2))), (3, NONE)])
        self.assertEqual((replica.last_index, replica.durable, replica.committed, replica.applied), (7, 7, 4, 4))
        self.assertEqual(replica.members, (0, 1, 2))
        self.assertIsNone(replica.state.decision((0, 0, 0)))

    def test_entries_that_cut_off_what_stood_behind_them(self):
        replica = self.start(
            ("make", 1, table_base(0, 1)), ("entry", 1, 1, 1, DROP), ("entry", 1, 2, 1, DROP),
            ("entry", 1, 3, 1, DROP), ("entry", 1, 2, 2, NONE)).replicas[1]
        self.assertEqual(replica.entries, [(1, DROP), (2, NONE)])
        self.assertEqual((replica.last_index, replica.durable), (2, 2))

    def test_bases_that_keep_what_follows(self):
        base = table_base(0, 1, 2, index=2, term=1, low=7)
        replica = self.start(
            ("make", 1, table_base(0, 1)), ("entry", 1, 1, 1, NONE), ("entry", 1, 2, 1, NONE),
            ("entry", 1, 3, 2, DROP), ("base", 1, base), ("entry", 1, 4, 2, NONE)).replicas[1]
        self.assertEqual((replica.base, replica.entries), (base, [(2, DROP), (2, NONE)]))
        self.assertEqual((replica.committed, replica.applied, replica.durable, replica.last_index), (2, 2, 4, 4))
        self.assertEqual((replica.state.low, replica.members), (7, (0, 1, 2)))

    def test_bases_that_remove_all(self):
        for base in (table_base(0, index=2, term=2, low=7), table_base(0, index=9, term=1, low=7)):
            replica = self.start(
                ("make", 1, table_base(0, 1)), ("entry", 1, 1, 1, NONE), ("entry", 1, 2, 1, NONE),
                ("entry", 1, 3, 2, DROP), ("base", 1, base)).replicas[1]
            self.assertEqual((replica.base, replica.entries, replica.state.low), (base, [], 7))
            self.assertEqual((replica.committed, replica.applied, replica.durable), (base[0],) * 3)

    def test_blank_ones(self):
        replica = self.start(("make", 1, None), ("term", 1, 4, 2)).replicas[1]
        self.assertEqual((replica.base, replica.state, replica.members, replica.last_index), (None, None, (), -1))
        self.assertEqual((replica.term, replica.voted), (4, 2))

    def test_blank_ones_with_a_first_base(self):
        base = table_base(1, 2, index=6, term=3)
        for record in (("base", 1, base), ("make", 1, base)):
            replica = self.start(("make", 1, None), ("term", 1, 4, 2), record, ("entry", 1, 7, 4, NONE)).replicas[1]
            self.assertEqual((replica.base, replica.entries), (base, [(4, NONE)]))
            self.assertEqual((replica.term, replica.voted, replica.committed, replica.durable), (4, 2, 6, 7))
            self.assertEqual(replica.state.picture(), base[3])

    def test_several_groups(self):
        machine = self.start(
            ("make", 3, None), ("make", 0, counter_base(0, last=5)), ("term", 3, 1, None),
            ("entry", 0, 1, 1, ("next",)), ("term", 0, 2, 0))
        self.assertEqual((machine.replicas[3].term, machine.replicas[0].term), (1, 2))
        self.assertEqual((machine.replicas[0].state.last, machine.replicas[0].entries), (5, [(1, ("next",))]))

    def test_the_state_of_a_group_is_what_its_picture_shows(self):
        machine = self.start(("make", 0, table_base(0)), ("make", 1, counter_base(0)))
        self.assertIsInstance(machine.replicas[0].state, Table)
        self.assertEqual(machine.replicas[1].state.last, 0)

    def test_it_goes_on_writing(self):
        machine = self.start(("make", 1, table_base(0)))
        machine.stand(1)
        machine.sync()
        again = Machine(0, machine.disk)
        self.assertEqual(memory(again), memory(machine))
        self.assertEqual(again.journal.records, machine.journal.records)


class Waits(unittest.TestCase):
    def test_what_is_sent_waits_for_the_records(self):
        machine = found(0, Disk(), [(1, table_base(0, 1, 2))])
        machine.stand(1)
        self.assertEqual(machine.journal.records[1:], [("term", 1, 1, 0)])
        self.assertGreater(machine.disk.waiting, 0)
        self.assertEqual(machine.released(), [])
        machine.sync()
        self.assertEqual(machine.disk.waiting, 0)
        asks = [to(1, "ask", 1, 1, 0, 0), to(2, "ask", 1, 1, 0, 0)]
        self.assertEqual(machine.released(), asks)
        self.assertEqual(machine.released(), [])

    def test_without_records_it_is_released_at_once(self):
        machine = found(0, Disk(), [(1, table_base(0, 1, 2))])
        machine.take(1, ("copy", 1, 0, 0, 0, (), 0))
        self.assertEqual(machine.released(), [to(1, "got", 1, 0, True, 0)])
        self.assertEqual(machine.disk.waiting, 0)

    def test_what_follows_waits_too(self):
        machine = found(0, Disk(), [(1, table_base(0, 1, 2)), (2, table_base(0, 1, 2))])
        machine.take(1, ("copy", 1, 0, 0, 0, ((0, NONE),), 0))
        machine.take(1, ("copy", 2, 0, 0, 0, (), 0))
        machine.call(5, ("call", 1, 2, DROP))
        self.assertEqual(machine.released(), [])
        machine.sync()
        self.assertEqual(machine.released(), [to(1, "got", 1, 0, True, 1), to(1, "got", 2, 0, True, 0), lost(5, 1, 1)])

    def test_records_alone_make_the_next_event_wait(self):
        machine = found(0, Disk(), [(1, table_base(0, 1, 2)), (2, table_base(0, 1, 2))])
        machine.take(1, ("vote", 1, 7, False))
        self.assertEqual((machine.released(), machine.disk.waiting > 0), ([], True))
        machine.call(5, ("call", 1, 2, DROP))
        self.assertEqual(machine.released(), [])
        machine.sync()
        self.assertEqual(machine.released(), [lost(5, 1, None)])

    def test_the_cache_may_be_empty_while_something_waits(self):
        machine = found(0, Disk(), [(1, table_base(0, 1, 2))])
        machine.stand(1)
        machine.disk.sync()
        machine.call(5, ("call", 1, 1, DROP))
        self.assertEqual(machine.released(), [])
        machine.sync()
        self.assertEqual([letter[0] for _, letter in machine.released()], ["ask", "ask", "lost"])

    def test_what_a_sync_makes_is_released_behind_what_waited(self):
        machine = alone(1)
        machine.call(5, ("call", 1, 1, DROP))
        machine.call(6, ("call", 8, 9, DROP))
        self.assertEqual((machine.released(), machine.applied()), ([], []))
        machine.sync()
        self.assertEqual(machine.released(), [lost(6, 8, None), told(5, 1, ("decided", 0))])
        self.assertEqual(machine.applied(), [(1, 2, DROP)])
        self.assertEqual(machine.applied(), [])

    def test_what_a_sync_makes_waits_if_it_makes_records(self):
        machine = alone(1)
        machine.call(-1, ("call", 1, 1, ("split", 500, 2)))
        machine.call(6, ("call", 8, 9, DROP))
        machine.sync()
        self.assertEqual(machine.released(), [lost(6, 8, None)])
        self.assertEqual(machine.journal.records[-1], ("make", 2, (0, 0, (0,), Table(500, 1000).picture())))
        self.assertGreater(machine.disk.waiting, 0)
        machine.sync()
        self.assertEqual(machine.released(), [told(-1, 1, ("split", 500, 2))])

    def test_a_sync_is_always_possible(self):
        machine = Machine(0, Disk())
        machine.sync()
        machine.sync()
        self.assertEqual((machine.released(), machine.applied()), ([], []))

    def test_the_order_of_what_one_event_makes(self):
        machine = found(0, Disk(), [(group, table_base(0, 1) if group == 2 else table_base(0)) for group in (4, 1, 2)])
        for group in (4, 2, 1):
            machine.stand(group)
        machine.sync()
        self.assertEqual(machine.applied(), [(1, 1, NONE), (4, 1, NONE)])
        machine.take(1, ("vote", 2, 1, True))
        machine.sync()
        machine.released()
        machine.call(7, ("call", 1, 4, DROP))
        machine.call(8, ("call", 2, 2, DROP))
        machine.call(9, ("call", 3, 1, DROP))
        machine.take(1, ("got", 2, 1, True, 2))
        machine.sync()
        copies = to(1, "copy", 2, 1, 0, 0, ((1, NONE), (1, DROP)), 0)
        self.assertEqual(machine.released(), [
            copies, told(9, 3, ("decided", 0)), told(8, 2, ("decided", 0)), told(7, 1, ("decided", 0))])
        self.assertEqual(machine.applied(), [(2, 1, NONE), (1, 2, DROP), (2, 2, DROP), (4, 2, DROP)])

    def test_letters_come_before_answers(self):
        machine = found(0, Disk(), [(1, table_base(0, 1, 2))])
        machine.stand(1)
        machine.take(1, ("vote", 1, 1, True))
        machine.call(7, ("call", 1, 1, DROP))
        machine.sync()
        machine.take(1, ("got", 1, 1, True, 1))
        machine.replicas[1].known[2] = 2
        machine.released()
        machine.take(1, ("got", 1, 1, False, 1))
        released = machine.released()
        self.assertEqual(released, [to(1, "copy", 1, 1, 0, 0, ((1, NONE), (1, DROP)), 1), told(7, 1, ("decided", 0))])

    def test_the_records_stand_in_the_order_of_the_changes(self):
        machine = found(0, Disk(), [(1, table_base(0, 1, 2))])
        pairs = ((3, NONE), (4, ("split", 500, 2)))
        machine.take(1, ("copy", 1, 4, 0, 0, pairs, 2))
        self.assertEqual(machine.journal.records[1:], [
            ("term", 1, 4, None), ("entry", 1, 1, 3, NONE), ("entry", 1, 2, 4, ("split", 500, 2)),
            ("make", 2, (0, 0, (0, 1, 2), Table(500, 1000).picture()))])
        machine.take(2, ("ask", 1, 5, 2, 4))
        self.assertEqual(machine.journal.records[5:], [("term", 1, 5, None), ("term", 1, 5, 2)])
        machine.shorten(1)
        self.assertEqual(machine.journal.records[7:], [("base", 1, machine.replicas[1].base)])

    def test_the_lists_of_the_replicas_are_emptied(self):
        machine = alone(1)
        machine.call(3, ("call", 1, 1, ("split", 500, 2)))
        machine.sync()
        machine.stand(2)
        for replica in machine.replicas.values():
            self.assertEqual((replica.ledger, replica.records, replica.letters, replica.answers, replica.births),
                             ([], [], [], [], []))

    def test_lists_are_new(self):
        machine = alone(1)
        machine.call(6, ("call", 8, 9, DROP))
        machine.released().append("more")
        machine.applied().append("more")
        self.assertEqual((machine.released(), machine.applied()), ([], []))


class Unknown(unittest.TestCase):
    def test_letters_that_make_a_blank_one(self):
        expected = {
            ("ask", 6, 2, 0, 0): ([("term", 6, 2, None), ("term", 6, 2, 1)], ("vote", 6, 2, True)),
            ("copy", 6, 2, 0, 0, ((1, NONE),), 0): ([("term", 6, 2, None)], ("got", 6, 2, False, -1)),
            ("base", 6, 0, table_base(1, 2, index=3, term=1)):
                ([("base", 6, table_base(1, 2, index=3, term=1))], ("got", 6, 0, True, 3)),
        }
        for letter, (records, answer) in expected.items():
            machine = found(0, Disk(), [(1, table_base(0))])
            machine.take(1, letter)
            self.assertEqual(machine.journal.records[1:], [("make", 6, None)] + records)
            self.assertEqual(machine.released(), [])
            machine.sync()
            self.assertEqual(machine.released(), [to(1, *answer)])
            again = Machine(0, machine.disk)
            self.assertEqual(memory(again), memory(machine))

    def test_letters_that_are_ignored(self):
        for letter in (("vote", 6, 2, True), ("got", 6, 2, True, 3)):
            machine = found(0, Disk(), [(1, table_base(0))])
            machine.take(1, letter)
            self.assertEqual((sorted(machine.replicas), machine.disk.waiting, machine.released()), ([1], 0, []))

    def test_groups_that_it_has_not(self):
        machine = found(0, Disk(), [(1, table_base(0))])
        for event in (machine.stand, machine.nudge, machine.shorten):
            event(6)
        self.assertEqual((sorted(machine.replicas), machine.released(), machine.disk.waiting), ([1], [], 0))


class Calls(unittest.TestCase):
    def test_told_by_the_leader(self):
        machine = alone(0, 1)
        machine.call(3, ("call", 12, 0, ("next",)))
        machine.call(-1, ("call", 1, 0, ("next",)))
        machine.sync()
        self.assertEqual(machine.released(), [told(3, 12, ("time", 1)), told(-1, 1, ("time", 2))])

    def test_lost_without_a_replica(self):
        machine = Machine(0, Disk())
        machine.call(3, ("call", 12, 1, DROP))
        self.assertEqual(machine.released(), [lost(3, 12, None)])

    def test_lost_names_the_machine_of_the_leader(self):
        for leader, number in ((0, 0), (2, 2), (302, 2), (8, 8), (1108, 8)):
            machine = found(1, Disk(), [(1, table_base(1, leader))])
            machine.take(leader, ("copy", 1, 0, 0, 0, (), 0))
            machine.released()
            machine.call(3, ("call", 12, 1, DROP))
            self.assertEqual(machine.released(), [lost(3, 12, number)])

    def test_lost_while_no_leader_is_known(self):
        machine = found(1, Disk(), [(1, table_base(1, 2)), (2, None)])
        machine.call(3, ("call", 12, 1, DROP))
        machine.call(3, ("call", 13, 2, DROP))
        self.assertEqual(machine.released(), [lost(3, 12, None), lost(3, 13, None)])

    def test_a_leader_names_itself_if_it_does_not_accept(self):
        machine = found(304, Disk(), [(1, table_base(304))])
        machine.stand(1)
        machine.sync()
        machine.call(-1, ("call", 1, 1, ("members", (1, 2))))
        self.assertEqual(machine.released(), [lost(-1, 1, 4)])

    def test_two_calls_with_one_command(self):
        machine = alone(0)
        for token in (1, 1, 2):
            machine.call(3, ("call", token, 0, ("next",)))
        machine.sync()
        self.assertEqual(machine.released(), [told(3, 1, ("time", 1)), told(3, 1, ("time", 2)), told(3, 2, ("time", 3))])

    def test_nothing_is_told_after_a_new_start(self):
        machine = alone(0)
        machine.call(3, ("call", 1, 0, ("next",)))
        machine.disk.crash([1] * 99)
        machine = Machine(0, machine.disk)
        self.assertEqual(machine.replicas[0].entries[-1], (1, ("next",)))
        machine.stand(0)
        machine.sync()
        self.assertEqual(machine.released(), [])
        self.assertEqual([command for _, _, command in machine.applied()], [NONE, ("next",), NONE])


class Splits(unittest.TestCase):
    SPLIT = ("copy", 1, 1, 0, 0, ((1, ("split", 500, 2)),), 1)

    def born(self, *groups):
        machine = found(0, Disk(), [(1, table_base(0, 1))] + list(groups))
        machine.take(1, self.SPLIT)
        return machine

    def test_a_new_replica(self):
        machine = self.born()
        replica = machine.replicas[2]
        self.assertEqual(replica.base, (0, 0, (0, 1), Table(500, 1000).picture()))
        self.assertEqual((replica.me, replica.group, replica.term, replica.voted, replica.role),
                         (0, 2, 0, None, "follower"))
        self.assertEqual(replica.durable, 0)

    def test_a_blank_one(self):
        machine = found(0, Disk(), [(1, table_base(0, 1))])
        machine.take(2, ("ask", 2, 5, 0, 0))
        self.assertIsNone(machine.replicas[2].base)
        machine.take(1, self.SPLIT)
        replica = machine.replicas[2]
        self.assertEqual((replica.base[:3], replica.term, replica.voted), ((0, 0, (0, 1)), 5, 2))
        self.assertEqual(machine.journal.records[-1], ("base", 2, replica.base))
        machine.sync()
        self.assertEqual(memory(Machine(0, machine.disk)), memory(machine))

    def test_a_blank_one_of_a_lower_group(self):
        machine = found(0, Disk(), [(5, table_base(0, 1)), (2, None)])
        machine.take(1, ("copy", 5, 1, 0, 0, ((1, ("split", 500, 2)),), 1))
        self.assertEqual(machine.journal.records[-1], ("base", 2, machine.replicas[2].base))
        machine.sync()
        self.assertEqual(memory(Machine(0, machine.disk)), memory(machine))

    def test_one_that_is_not_blank(self):
        machine = self.born((2, table_base(0, 1, index=4, term=1, low=500)))
        self.assertEqual(machine.replicas[2].base, table_base(0, 1, index=4, term=1, low=500))
        self.assertEqual(machine.journal.records[-1][0], "entry")

    def test_the_new_one_lives_on_its_own(self):
        machine = alone(1)
        machine.call(3, ("call", 1, 1, ("split", 500, 2)))
        machine.sync()
        machine.stand(2)
        machine.sync()
        machine.released()
        machine.call(3, ("call", 2, 2, ("prepare", (0, 0, 0), 1, (), ((700, 1),), 2)))
        machine.sync()
        self.assertEqual(machine.released(), [told(3, 2, ("prepared",))])
        self.assertEqual(machine.replicas[2].state.prepared(), [(0, 0, 0)])
        self.assertEqual(machine.replicas[1].state.part.prepared(), [])

    def test_a_split_that_is_applied_again(self):
        machine = alone(1)
        machine.call(3, ("call", 1, 1, ("split", 500, 2)))
        machine.sync()
        machine.stand(2)
        machine.sync()
        again = Machine(0, machine.disk)
        before = memory(again)[2]
        again.stand(1)
        again.sync()
        self.assertIn((1, 2, ("split", 500, 2)), again.applied())
        self.assertEqual(memory(again)[2], before)


class Crashes(unittest.TestCase):
    def a_run(self, machine):
        """Events that make records, one after the other; yields how many of the records are synced."""
        kept = len(machine.journal.records)
        machine.stand(1)
        yield kept
        machine.take(1, ("vote", 1, 1, True))
        yield kept
        machine.sync()
        kept = len(machine.journal.records)
        yield kept
        machine.call(3, ("call", 1, 1, ("split", 500, 2)))
        yield kept
        machine.take(1, ("got", 1, 1, True, 2))
        yield kept
        machine.take(2, ("ask", 1, 4, 9, 9))
        machine.take(2, ("copy", 1, 4, 1, 1, ((4, NONE),), 2))
        yield kept

    def test_every_fate_of_the_last_writes(self):
        for stop in range(6):
            for seed in range(81):
                machine = found(0, Disk(), [(1, table_base(0, 1, 2))])
                for n, kept in enumerate(self.a_run(machine)):
                    if n == stop:
                        break
                records = machine.journal.records
                waiting = machine.disk.waiting
                fates = [seed // 3 ** min(n, 3 - (waiting - 1 - n)) % 3 if n in (0, 1, waiting - 2, waiting - 1) else 1
                         for n in range(waiting)]
                machine.disk.crash(fates)
                again = Machine(0, machine.disk)
                opened = again.journal.records
                self.assertEqual(opened, records[:len(opened)])
                self.assertGreaterEqual(len(opened), kept)
                self.assertEqual(memory(again), memory(Machine(0, on_disk(*opened))))

    def test_a_vote_that_was_sent_is_kept(self):
        machine = found(0, Disk(), [(1, table_base(0, 1, 2))])
        machine.take(1, ("ask", 1, 4, 0, 0))
        machine.sync()
        self.assertEqual(machine.released(), [to(1, "vote", 1, 4, True)])
        machine.disk.crash([])
        again = Machine(0, machine.disk)
        again.take(2, ("ask", 1, 4, 0, 0))
        self.assertEqual(again.released(), [to(2, "vote", 1, 4, False)])

    def test_a_vote_that_was_not_sent_may_be_lost(self):
        machine = found(0, Disk(), [(1, table_base(0, 1, 2))])
        machine.take(1, ("ask", 1, 4, 0, 0))
        machine.disk.crash([])
        again = Machine(0, machine.disk)
        self.assertEqual((again.replicas[1].term, again.replicas[1].voted), (0, None))


class Shorten(unittest.TestCase):
    def test_a_machine_shortens(self):
        machine = alone(0)
        machine.call(3, ("call", 1, 0, ("next",)))
        machine.sync()
        machine.released()
        machine.shorten(0)
        self.assertEqual(machine.replicas[0].base, (2, 1, (0,), ("counter", 1)))
        machine.sync()
        again = Machine(0, machine.disk)
        self.assertEqual((again.replicas[0].state.last, again.replicas[0].entries), (1, []))
        self.assertEqual(again.journal.records[-1], ("base", 0, (2, 1, (0,), ("counter", 1))))

    def test_a_machine_nudges(self):
        machine = found(0, Disk(), [(1, table_base(0, 1))])
        machine.stand(1)
        machine.take(1, ("vote", 1, 1, True))
        machine.sync()
        machine.released()
        machine.nudge(1)
        self.assertEqual(machine.released(), [to(1, "copy", 1, 1, 0, 0, ((1, NONE),), 0)])


if __name__ == "__main__":
    unittest.main()
