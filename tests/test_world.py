"""Points 33 to 35 and 37: worlds, their nets, and the choices."""

import copy
import unittest

from helpers import counter_base, table_base
from wholecloth.clerk import Clerk
from wholecloth.counter import Counter
from wholecloth.disk import Disk
from wholecloth.journal import Journal
from wholecloth.machine import Machine
from wholecloth.table import Table
from wholecloth.world import World

READ, WRITE = [("get", 5)], [("put", 5, 7)]
START = ("next",)


def at(number):
    return ("machine", number)


def choice(kind, number=0):
    return kind + 16 * number


def deed(kind, number=0):
    return choice(15, kind + 5 * number)


class WorldTest(unittest.TestCase):
    def choose(self, world, *choices):
        for each in choices:
            self.assertIsNone(world.choose(each))

    def snapshot(self, world):
        """All that can be seen of a world."""
        machines = [None if machine is None else
                    (machine.identity, list(machine.journal.records), list(machine.held),
                     {group: (replica.role, replica.term, replica.committed, replica.base, list(replica.entries))
                      for group, replica in machine.replicas.items()}) for machine in world.machines]
        disks = [(disk.size, disk.waiting, disk.readable()) for disk in world.disks]
        clerks = [(clerk.number, clerk.busy, list(clerk.places), clerk.idle(), clerk.token) for clerk in world.clerks]
        return copy.deepcopy((machines, disks, clerks, world.net, world.identities, world.groups, world.history,
                              world.wiped, world.ledgers, world.token))

    def assert_nothing(self, world, *choices):
        before = self.snapshot(world)
        for each in choices:
            self.choose(world, each)
            self.assertEqual(self.snapshot(world), before, each)

    def elected(self, machines, members, deals=(), groups=(0, 1)):
        """A world in which machine 0 leads these groups; nothing is on its way, all disks are synced."""
        world = World(machines, members, list(deals))
        for group in groups:
            world.choose(choice(10, machines * group))
        self.empty(world)
        for group in groups:
            assert world.machines[0].replicas[group].role == "leader"
        return world

    def empty(self, world):
        """All machines that run sync, and all letters are delivered."""
        for _ in range(500):
            for number in range(len(world.machines)):
                world.choose(choice(8, number))
            if not world.net:
                return
            world.choose(0)
        self.fail("there are always more letters")


class Setup(WorldTest):
    def test_members_and_others(self):
        for machines in range(1, 6):
            for members in range(1, machines + 1):
                world = World(machines, members, [])
                bases = [counter_base(*range(members)), table_base(*range(members))]
                for number in range(machines):
                    machine = world.machines[number]
                    self.assertIsInstance(machine, Machine)
                    self.assertEqual((machine.identity, machine.disk), (number, world.disks[number]))
                    records = [("make", 0, bases[0]), ("make", 1, bases[1])] if number < members else []
                    self.assertEqual(machine.journal.records, records)
                    self.assertEqual(Journal(world.disks[number]).records, records)
                    self.assertEqual(world.disks[number].waiting, 0)
                    self.assertEqual(sorted(machine.replicas), [0, 1] if records else [])
                    if not records:
                        self.assertEqual(world.disks[number].size, 0)

    def test_the_fields(self):
        world = World(3, 2, [[READ], []])
        self.assertEqual((world.net, world.identities, world.groups, world.history, world.wiped),
                         ([], [0, 1, 2], 2, [], []))
        self.assertEqual(world.ledgers, {0: [], 1: []})
        self.assertEqual(sorted(world.tables), [0, 1])
        self.assertIsInstance(world.tables[0], Counter)
        self.assertEqual((world.tables[0].last, world.tables[1].picture()), (0, Table(0, 1000).picture()))
        self.assertTrue(all(isinstance(disk, Disk) for disk in world.disks))
        self.assertTrue(all(isinstance(clerk, Clerk) for clerk in world.clerks))
        self.assertEqual([(clerk.client, clerk.deals) for clerk in world.clerks], [(0, [READ]), (1, [])])
        self.assertEqual((world.story(), world.view()), ([], {}))

    def test_the_deals_are_not_changed(self):
        deals = [[list(READ), list(WRITE)], [], [list(WRITE)]]
        before = copy.deepcopy(deals)
        world = World(3, 3, deals)
        for number in range(300):
            world.choose(number * 31)
        world.settle()
        self.assertEqual(deals, before)
        deals[0].append(READ)
        deals[2][0].append(("get", 1))
        self.assertEqual([clerk.deals for clerk in world.clerks], before)

    def test_worlds_share_nothing(self):
        first, second = World(2, 2, [[WRITE]]), World(2, 2, [[WRITE]])
        before = self.snapshot(second)
        first.settle()
        self.assertEqual(self.snapshot(second), before)


class Letters(WorldTest):
    def test_receivers_and_senders(self):
        world = World(3, 3, [[], [WRITE]])
        self.choose(world, choice(13, 1))
        self.assertEqual(world.net, [(("host", 0), ("clerk", 1), ("call", 1, 0, START))])
        self.choose(world, choice(10, 2), choice(8, 2))
        asks = [(at(number), at(2), ("ask", 0, 1, 0, 0)) for number in (0, 1)]
        self.assertEqual(world.net[1:], asks)
        self.choose(world, 0)
        self.assertEqual(world.net, asks + [(("clerk", 1), at(0), ("lost", 1, None))])
        self.choose(world, 0, choice(8, 0))
        self.assertEqual(world.net[-1], (at(2), at(0), ("vote", 0, 1, True)))

    def test_each_kind_of_delivery(self):
        for kind in range(6):
            for number, first in ((0, 0), (1, 1), (2, 2), (3, 0), (7, 1)):
                world = World(2, 2, [[READ], [READ], [READ]])
                self.choose(world, choice(13, 0), choice(13, 1), choice(13, 2))
                clients = [sender[1] for _, sender, _ in world.net]
                self.choose(world, choice(kind, number))
                left = [client for client in clients if client != first]
                self.assertEqual([sender[1] for _, sender, _ in world.net[:2]], left)
                self.assertEqual(world.net[2], (("clerk", first), at(0), ("lost", 1, None)))

    def test_removed(self):
        world = World(2, 2, [[READ], [READ], [READ]])
        self.choose(world, choice(13, 0), choice(13, 1), choice(13, 2), choice(6, 4))
        self.assertEqual([sender[1] for _, sender, _ in world.net], [0, 2])

    def test_copied(self):
        world = World(2, 2, [[READ], [READ], [READ]])
        self.choose(world, choice(13, 0), choice(13, 1), choice(13, 2), choice(7, 4))
        self.assertEqual([sender[1] for _, sender, _ in world.net], [0, 1, 2, 1])
        self.assertEqual(world.net[1], world.net[3])

    def test_an_empty_net(self):
        self.assert_nothing(World(2, 2, [[READ]]), *[choice(kind, number) for kind in range(8) for number in (0, 5)])

    def test_at_most_400(self):
        world = World(2, 2, [[READ]])
        self.choose(world, choice(13))
        for _ in range(450):
            self.choose(world, choice(7))
        self.assertEqual(len(world.net), 400)
        self.choose(world, choice(13))
        self.assertEqual(len(world.net), 400)
        self.assertEqual(world.net[-1][0], ("host", 1))
        self.assertEqual(world.net[0][0], ("host", 0))
        for _ in range(399):
            self.choose(world, choice(13))
        self.assertEqual(world.net[0][0], ("host", 1))
        self.choose(world, choice(13))
        self.assertEqual((len(world.net), world.net[0][0]), (400, ("host", 0)))

    def test_stopped_machines_get_nothing(self):
        world = World(2, 2, [[READ]])
        self.choose(world, choice(13), choice(10, 1), choice(8, 1), choice(11, 0))
        self.assertEqual([receiver for receiver, _, _ in world.net], [("host", 0), at(0)])
        before = self.snapshot(world)
        self.choose(world, 0, 0)
        self.assertEqual(world.net, [])
        world.net.extend(before[3])
        self.assertEqual(self.snapshot(world), before)

    def test_another_life_gets_nothing(self):
        world = World(3, 3, [[READ]])
        self.choose(world, choice(13), choice(10, 1), choice(8, 1), deed(0, 0), choice(12, 0))
        self.assertEqual((world.identities[0], world.machines[0].identity), (100, 100))
        receivers = [receiver for receiver, _, _ in world.net]
        self.assertEqual(receivers, [("host", 0), at(0), at(2)])
        self.choose(world, choice(0, 1))
        self.assertEqual((len(world.net), world.machines[0].replicas), (2, {}))
        self.choose(world, 0)
        self.assertEqual(world.net[-1], (("clerk", 0), at(100), ("lost", 1, None)))

    def test_the_operator_hears_nothing(self):
        world = World(1, 1, [[READ]])
        self.choose(world, deed(1, 7 * 500), 0)
        self.assertEqual(world.net, [(("clerk", -1), at(0), ("lost", 1, None))])
        before = self.snapshot(world)
        self.choose(world, 0)
        self.assertEqual(world.net, [])
        self.assertEqual(self.snapshot(world)[:3], before[:3])


class Machines(WorldTest):
    def test_sync(self):
        for kind in (8, 9):
            world = World(3, 3, [])
            self.choose(world, choice(10, 1))
            self.assertEqual((world.net, world.disks[1].waiting > 0), ([], True))
            self.choose(world, choice(kind, 0), choice(kind, 3), choice(kind, 5))
            self.assertEqual((world.net, world.disks[1].waiting > 0), ([], True))
            self.choose(world, choice(kind, 7))
            self.assertEqual((len(world.net), world.disks[1].waiting), (2, 0))

    def test_stand_and_nudge(self):
        world = World(3, 3, [])
        self.choose(world, choice(10, 2 + 3 * 1))
        self.assertEqual((world.machines[2].replicas[1].role, world.machines[2].replicas[0].role),
                         ("candidate", "follower"))
        self.choose(world, choice(10, 2 + 3 * 3))
        self.assertEqual(world.machines[2].replicas[1].term, 2)
        self.choose(world, choice(10, 2 + 3 * 2))
        self.assertEqual(world.machines[2].replicas[0].term, 1)
        leading = self.elected(3, 3)
        self.choose(leading, choice(10, 0))
        self.assertEqual([(receiver, letter[0]) for receiver, _, letter in leading.net],
                         [(at(1), "copy"), (at(2), "copy")])
        self.assertEqual(leading.machines[0].replicas[0].term, 1)

    def test_stand_without_a_replica(self):
        world = World(3, 2, [])
        self.assert_nothing(world, choice(10, 2), choice(10, 5))
        world.groups = 4
        self.assert_nothing(world, choice(10, 0 + 3 * 2), choice(10, 1 + 3 * 7))

    def test_crash_and_start(self):
        world = World(3, 3, [])
        self.choose(world, choice(10, 1), choice(11, 1))
        self.assertEqual((world.machines[1], world.disks[1].waiting, world.identities), (None, 0, [0, 1, 2]))
        self.assert_nothing(world, choice(8, 1), choice(9, 1), choice(10, 1), choice(11, 1), choice(12, 0),
                            choice(12, 2))
        self.choose(world, choice(12, 4))
        self.assertEqual((world.machines[1].identity, world.machines[1].replicas[0].term), (1, 0))
        self.assert_nothing(world, choice(12, 1))

    def test_the_fates_of_a_crash(self):
        size = World(3, 3, []).disks[1].size
        for fates in ((1, 1, 1), (0, 0, 0), (1, 1, 2), (2, 1, 1), (1, 0, 1), (0, 1, 1)):
            world = World(3, 3, [])
            self.choose(world, choice(10, 1))
            many = world.disks[1].waiting
            self.assertLessEqual(many, len(fates))
            number = sum(fate * 3 ** n for n, fate in enumerate(fates))
            self.choose(world, choice(11, 1 + 3 * number))
            for n in range(many):
                block = world.disks[1].look(size + n)
                self.assertEqual(block is not None, fates[n] == 1)
            self.choose(world, choice(12, 1))
            kept = all(fate == 1 for fate in fates[:many])
            self.assertEqual(world.machines[1].replicas[0].term, 1 if kept else 0)

    def test_writes_behind_the_60th_are_lost(self):
        world = World(2, 2, [])
        while world.disks[0].waiting < 70:
            self.choose(world, choice(10, 0))
        size = world.disks[0].size - world.disks[0].waiting
        self.choose(world, choice(11, 2 * sum(3 ** n for n in range(80))))
        found = [world.disks[0].look(size + n) is not None for n in range(70)]
        self.assertEqual(found, [True] * 60 + [False] * 10)

    def test_a_crash_empties_the_memory(self):
        world = self.elected(3, 3, [[WRITE]])
        self.choose(world, choice(13))
        self.choose(world, 0, choice(11, 0), choice(12, 0))
        replica = world.machines[0].replicas[0]
        self.assertEqual((replica.role, replica.last_index, replica.committed), ("follower", 1, 0))
        self.assertEqual(world.machines[0].held, [])
        self.choose(world, choice(8, 0))
        self.assertEqual(world.net, [])


class Clients(WorldTest):
    def test_act(self):
        for kind, number in ((13, 1), (13, 3), (14, 5), (14, 7), (14, 9), (14, 15), (14, 21)):
            world = World(2, 2, [[READ], [READ]])
            self.choose(world, choice(kind, number))
            self.assertEqual(world.net, [(("host", 0), ("clerk", 1), ("call", 1, 0, START))], (kind, number))
            self.assertEqual(world.history, [("asked", 1, 0)])

    def test_forget(self):
        for number in (0, 2, 16, 18, 34):
            world = World(2, 2, [[READ, READ], [READ]])
            self.choose(world, choice(13, 0), choice(14, number))
            self.assertEqual((world.clerks[0].number, world.clerks[0].busy, len(world.net)), (1, False, 1), number)
            self.assertEqual(world.history, [("asked", 0, 0)])
            self.choose(world, choice(13, 0))
            self.assertEqual(world.history, [("asked", 0, 0), ("asked", 0, 1)])

    def test_forget_nothing(self):
        world = World(2, 2, [[READ, READ], [READ]])
        self.assert_nothing(world, choice(14, 0), choice(14, 1))

    def test_no_clients(self):
        world = World(2, 2, [])
        self.assert_nothing(world, *[choice(kind, number) for kind in (13, 14) for number in range(20)])

    def test_the_history(self):
        world = self.elected(1, 1, [[WRITE], [READ]])
        for client in (0, 1):
            while not world.clerks[client].idle():
                self.choose(world, choice(13, client))
                self.empty(world)
        self.assertEqual(world.history, [("asked", 0, 0), ("told", 0, 0, "done", [None], 2),
                                         ("asked", 1, 0), ("told", 1, 0, "done", [7], 3)])

    def test_calls_go_to_the_hosts(self):
        world = World(3, 3, [[READ]])
        for machine in (0, 1, 2, 0):
            self.choose(world, choice(13))
            self.assertEqual(world.net[-1], (("host", machine), ("clerk", 0), ("call", 1, 0, START)))


class Splits(WorldTest):
    def test_the_call(self):
        world = World(3, 3, [])
        number = 5 + 7 * (123 + 1000 * 2)
        self.choose(world, deed(1, number))
        group = 1
        self.assertEqual(number // 7 % 1000, 123)
        self.assertEqual(world.net, [(("host", 2), ("clerk", -1), ("call", 1, group, ("split", 123, 2)))])
        self.assertEqual(world.groups, 3)
        self.choose(world, deed(1, 7 * 999 + 3), deed(1, 7 * 1000 + 6), deed(1, 2))
        calls = [(receiver[1],) + letter[1:] for receiver, _, letter in world.net[1:]]
        self.assertEqual(calls, [(0, 2, 1 + (7 * 999 + 3) % 2, ("split", 999, 3)),
                                 (1, 3, 1 + (7 * 1000 + 6) % 3, ("split", 0, 4)),
                                 (0, 4, 1 + 2 % 4, ("split", 0, 5))])
        self.assertEqual(world.groups, 6)
        self.assert_nothing(world, deed(1, 0), deed(1, 7 * 500), deed(1, 12345678))

    def test_it_is_split(self):
        world = self.elected(3, 3)
        self.choose(world, deed(1, 7 * 500))
        self.empty(world)
        self.assertEqual(world.ledgers[1][-1], ("split", 500, 2))
        self.assertEqual((sorted(world.ledgers), sorted(world.tables)), ([0, 1, 2], [0, 1, 2]))
        self.assertEqual(world.ledgers[2], [])
        self.assertEqual([(world.tables[group].low, world.tables[group].high) for group in (1, 2)],
                         [(0, 500), (500, 1000)])
        self.choose(world, choice(10, 0))
        self.empty(world)
        for machine in world.machines:
            self.assertEqual(machine.replicas[1].state.low, 0)

    def test_a_copy_of_the_call_does_nothing_more(self):
        world = self.elected(3, 3)
        self.choose(world, deed(1, 7 * 500), choice(7, 0))
        self.empty(world)
        self.assertEqual(world.ledgers[1], [("none",), ("split", 500, 2), ("split", 500, 2)])
        self.assertEqual(world.tables[1].signs, [(500, 1000, 2)])


class MembersDeed(WorldTest):
    def test_one_is_removed(self):
        for item in range(3):
            world = self.elected(3, 3)
            b = next(b for b in range(343) if b % 2 == 1 and b // 7 % 3 == item)
            self.choose(world, deed(2, b))
            identities = tuple(one for one in (0, 1, 2) if one != item)
            self.assertEqual(world.machines[0].replicas[1].members, identities)
            self.assertEqual((world.net, world.token), ([], 1))
            self.empty(world)
            self.assertEqual(world.ledgers[1], [("none",), ("members", identities)])
            self.assertEqual(world.machines[0].replicas[0].members, (0, 1, 2))

    def test_one_is_added(self):
        world = self.elected(5, 3)
        b = next(b for b in range(343) if b % 2 == 0 and b // 7 % 5 == 3)
        self.choose(world, deed(2, b))
        self.assertEqual(world.machines[0].replicas[0].members, (0, 1, 2, 3))
        self.empty(world)
        self.assertEqual(world.machines[3].replicas[0].members, (0, 1, 2))
        self.choose(world, choice(10, 0))
        self.empty(world)
        self.assertEqual(world.machines[3].replicas[0].members, (0, 1, 2, 3))

    def test_the_machine_is_called_without_a_letter(self):
        world = self.elected(3, 3)
        b = 343 + 1
        self.choose(world, deed(2, b))
        self.assertEqual(world.net, [(("clerk", -1), at(1), ("lost", 1, 0))])
        self.choose(world, deed(1, 0))
        self.assertEqual(world.net[1][2][:2], ("call", 2))

    def test_candidates_are_members_and_all_machines(self):
        world = self.elected(3, 3)
        self.choose(world, deed(0, 2))
        self.assertEqual(world.identities, [0, 1, 102])
        self.choose(world, choice(12, 2))
        b = next(b for b in range(343) if b % 2 == 1 and b // 7 % 4 == 3)
        self.choose(world, deed(2, b))
        self.assertEqual(world.machines[0].replicas[1].members, (0, 1, 2))
        self.assertEqual(world.token, 0)
        b = next(b for b in range(343) if b % 2 == 1 and b // 7 % 4 == 2)
        self.choose(world, deed(2, b))
        self.assertEqual(world.machines[0].replicas[1].members, (0, 1))
        self.empty(world)
        b = next(b for b in range(343) if b % 2 == 1 and b // 7 % 3 == 2)
        self.choose(world, deed(2, b))
        self.assertEqual(world.machines[0].replicas[1].members, (0, 1, 102))

    def test_more_than_half_have_to_be_holders(self):
        world = self.elected(2, 1)
        b = next(b for b in range(343) if b % 2 == 1 and b // 7 % 2 == 1)
        before = world.token
        self.choose(world, deed(2, b))
        self.assertEqual((world.machines[0].replicas[1].members, world.token), ((0,), before))
        wide = self.elected(3, 2)
        b = next(b for b in range(343) if b % 2 == 1 and b // 7 % 3 == 2)
        self.choose(wide, deed(2, b))
        self.assertEqual(wide.machines[0].replicas[1].members, (0, 1, 2))

    def test_the_last_one_is_not_removed(self):
        world = self.elected(1, 1)
        self.assert_nothing(world, deed(2, 0), deed(2, 1), deed(2, 7))

    def test_stopped_machines_and_blank_ones(self):
        world = self.elected(3, 2)
        self.assert_nothing(world, deed(2, 343 * 2), deed(2, 343 * 2 + 1))
        self.choose(world, choice(11, 1))
        self.assert_nothing(world, deed(2, 343), deed(2, 344))
        other = World(3, 2, [])
        other.machines[2].take(0, ("ask", 1, 1, 0, 0))
        other.choose(choice(8, 2))
        self.assertIsNone(other.machines[2].replicas[1].base)
        self.assert_nothing(other, deed(2, 343 * 2 + 1))

    def test_stopped_machines_may_be_holders(self):
        world = self.elected(3, 2)
        self.choose(world, choice(11, 1))
        b = next(b for b in range(343) if b % 2 == 1 and b // 7 % 3 == 2)
        self.choose(world, deed(2, b))
        self.assertEqual(world.machines[0].replicas[1].members, (0, 1, 2))

    def test_no_disk_may_write(self):
        world = self.elected(3, 3)
        self.choose(world, choice(10, 2))
        self.assertGreater(world.disks[2].waiting, 0)
        self.assert_nothing(world, deed(2, 0), deed(2, 1), deed(2, 7), deed(0, 1), deed(0, 0))


class Shorten(WorldTest):
    def test_it_is_shortened(self):
        world = self.elected(3, 3)
        self.choose(world, deed(3, 0 + 3 * 1))
        self.assertEqual(world.machines[0].replicas[1].base[:3], (1, 1, (0, 1, 2)))
        self.assertEqual(world.machines[0].replicas[0].base[0], 0)
        self.choose(world, deed(3, 0 + 3 * 2))
        self.assertEqual(world.machines[0].replicas[0].base[0], 1)
        self.assertGreater(world.disks[0].waiting, 0)

    def test_it_is_not(self):
        world = self.elected(3, 2, groups=(0,))
        self.assert_nothing(world, deed(3, 2), deed(3, 5), deed(3, 1 + 3))
        self.choose(world, choice(11, 0))
        self.assert_nothing(world, deed(3, 0), deed(3, 3))

    def test_deed_4(self):
        world = self.elected(3, 3, [[READ]])
        self.assert_nothing(world, *[deed(4, number) for number in range(30)])


if __name__ == "__main__":
    unittest.main()
