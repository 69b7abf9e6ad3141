"""Points 33 to 41: drawn lists of choices, beside a second, plainer reading, and held against the statements."""

import copy
import unittest

from helpers import counter_base, numbers, table_base
from worlds import Drawn, check_settled, check_world
from wholecloth.clerk import Clerk
from wholecloth.disk import Disk
from wholecloth.feeds import feed, follow, state_at
from wholecloth.machine import Machine, found
from wholecloth.world import World


class Plain:
    """A world read word by word; it keeps no ledgers."""

    def __init__(self, machines, members, deals):
        self.many = machines
        base = tuple(range(members))
        self.disks = [Disk() for _ in range(machines)]
        groups = [(0, counter_base(*base)), (1, table_base(*base))]
        self.machines = [found(n, self.disks[n], groups if n < members else []) for n in range(machines)]
        self.identities = [n for n in range(machines)]
        self.clerks = [Clerk(n, machines, ops) for n, ops in enumerate(deals)]
        self.net, self.history, self.wiped, self.groups, self.token = [], [], [], 2, 0

    def send(self, *letter):
        self.net = (self.net + [letter])[-400:]

    def after(self, n):
        for receiver, letter in self.machines[n].released():
            self.send(receiver, ("machine", self.identities[n]), letter)

    def from_clerk(self, n, calls):
        for number, letter in calls:
            self.send(("host", number), ("clerk", n), letter)
        self.history += self.clerks[n].events()

    def deliver(self, i):
        (kind, who), sender, letter = self.net.pop(i)
        if kind == "clerk" and who >= 0:
            self.from_clerk(who, self.clerks[who].hear(letter))
        for n in range(self.many):
            if self.machines[n] is not None:
                if kind == "host" and who == n:
                    self.machines[n].call(sender[1], letter)
                    self.after(n)
                if kind == "machine" and who == self.machines[n].identity:
                    self.machines[n].take(sender[1], letter)
                    self.after(n)

    def choose(self, c):
        kind, a, many = c % 16, c // 16, self.many
        n = a % many
        running = self.machines[n] is not None
        if kind <= 5 and self.net:
            self.deliver(a % len(self.net))
        elif kind == 6 and self.net:
            self.net.pop(a % len(self.net))
        elif kind == 7 and self.net:
            self.send(*self.net[a % len(self.net)])
        elif kind in (8, 9) and running:
            self.machines[n].sync()
            self.after(n)
        elif kind == 10 and running:
            self.rouse(n, a // many % self.groups)
        elif kind == 11 and running:
            waiting = self.disks[n].waiting
            self.disks[n].crash([a // many // 3 ** i % 3 if i < 60 else 0 for i in range(waiting)])
            self.machines[n] = None
        elif kind == 12 and not running:
            self.machines[n] = Machine(self.identities[n], self.disks[n])
        elif kind in (13, 14) and self.clerks:
            client = a % len(self.clerks)
            if kind == 14 and (a // 4) % 4 == 0:
                self.clerks[client].forget()
            else:
                self.from_clerk(client, self.clerks[client].act())
        elif kind == 15:
            (self.deed_0, self.deed_1, self.deed_2, self.deed_3, lambda b: None)[a % 5](a // 5)

    def rouse(self, n, group):
        if group in self.machines[n].replicas:
            leading = self.machines[n].replicas[group].role == "leader"
            (self.machines[n].nudge if leading else self.machines[n].stand)(group)
            self.after(n)

    def as_if_started(self):
        """For each identity that is not wiped its replicas that are not blank."""
        kept = {}
        for n in range(self.many):
            machine = self.machines[n] or Machine(self.identities[n], copy.deepcopy(self.disks[n]))
            kept[self.identities[n]] = {group: replica for group, replica in machine.replicas.items()
                                        if replica.base is not None}
        return kept

    def configurations(self):
        """All pairs of a group and its members somewhere."""
        pairs = set()
        for replicas in self.as_if_started().values():
            for group, replica in replicas.items():
                pairs.add((group, replica.base[2]))
                pairs |= {(group, command[1]) for _, command in replica.entries if command[0] == "members"}
        for _, _, letter in self.net:
            if letter[0] == "base":
                pairs.add((letter[1], letter[3][2]))
            if letter[0] == "copy":
                pairs |= {(letter[1], command[1]) for _, command in letter[5] if command[0] == "members"}
        return pairs

    def cached(self):
        return sum(disk.waiting for disk in self.disks) > 0

    def may_wipe(self, n):
        kept = self.as_if_started()
        del kept[self.identities[n]]
        return not self.cached() and all(
            2 * sum(one in kept and group in kept[one] for one in members) > len(members)
            for group, members in self.configurations())

    def deed_0(self, b):
        n = b % self.many
        if self.may_wipe(n):
            self.machines[n] = None
            self.disks[n].wipe()
            self.wiped.append(self.identities[n])
            self.identities[n] += 100

    def deed_1(self, b):
        if self.groups < 6:
            self.token += 1
            command = ("split", (b // 7) % 1000, self.groups)
            call = ("call", self.token, 1 + b % (self.groups - 1), command)
            self.send(("host", (b // 7000) % self.many), ("clerk", -1), call)
            self.groups += 1

    def deed_2(self, b):
        group, machine = b % self.groups, self.machines[(b // 343) % self.many]
        if self.cached() or machine is None or group not in machine.replicas or machine.replicas[group].base is None:
            return
        members = machine.replicas[group].members
        candidates = sorted(set(members) | set(self.identities))
        identities = tuple(sorted(set(members) ^ {candidates[(b // 7) % len(candidates)]}))
        holders = [one for one, replicas in self.as_if_started().items() if group in replicas]
        if 2 * len(set(holders) & set(identities)) > len(identities):
            self.token += 1
            machine.call(-1, ("call", self.token, group, ("members", identities)))
            self.after((b // 343) % self.many)

    def deed_3(self, b):
        n = b % self.many
        group = (b // self.many) % self.groups
        if self.machines[n] is not None and group in self.machines[n].replicas:
            self.machines[n].shorten(group)
            self.after(n)

    def settle(self):
        for n in range(self.many):
            if self.machines[n] is None:
                self.machines[n] = Machine(self.identities[n], self.disks[n])
        rounds = 100 + 100 * sum(len(clerk.deals) - clerk.number for clerk in self.clerks)
        while rounds > 0:
            self.empty()
            busy = [n for n, clerk in enumerate(self.clerks) if not clerk.idle()]
            if not busy:
                return True
            for group in range(self.groups):
                best = None
                for n in range(self.many):
                    replica = self.machines[n].replicas.get(group)
                    if replica is None:
                        continue
                    rank = (1, replica.term) if replica.role == "leader" else (0, 0)
                    if rank == (0, 0) and replica.base is not None:
                        rank = (0, 1, replica.entries[-1][0] if replica.entries else replica.base[1],
                                replica.last_index)
                    if rank != (0, 0) and (best is None or rank > best[0]):
                        best = (rank, n)
                if best is not None:
                    self.rouse(best[1], group)
            self.empty()
            busy = [n for n, clerk in enumerate(self.clerks) if not clerk.idle()]
            if busy:
                self.from_clerk(busy[0], self.clerks[busy[0]].act())
            rounds -= 1
        return False

    def empty(self):
        delivered = 0
        while delivered < 4000:
            for n in range(self.many):
                self.machines[n].sync()
                self.after(n)
            if not self.net:
                return
            self.deliver(0)
            delivered += 1


def drawn(seed, many):
    """A drawn world; the seed gives its machines, members and clients, too."""
    machines = 1 + seed % 5
    members = 1 + seed // 5 % machines
    return Drawn(seed, machines, members, seed % 7 % 5, many)


class Beside(unittest.TestCase):
    def assert_alike(self, world, plain):
        for name in ("net", "history", "wiped", "groups", "identities"):
            self.assertEqual(getattr(world, name), getattr(plain, name), name)
        for one, other in zip(world.machines, plain.machines):
            self.assertEqual(one is None, other is None)
            if one is not None:
                self.assertEqual(one.journal.records, other.journal.records)
        self.assertEqual([disk.readable() for disk in world.disks], [disk.readable() for disk in plain.disks])

    def test_they_are_alike(self):
        wiped = members = 0
        for seed in range(100):
            both = drawn(seed, 350)
            world, plain = both.world, Plain(both.machines, len(both.world.machines[0].replicas[0].members), both.deals)
            for n, choice in enumerate(both.choices):
                world.choose(choice)
                plain.choose(choice)
                self.assertEqual(world.net, plain.net, (seed, n, choice))
                if n % 50 == 0:
                    self.assertEqual([world.may_wipe(machine) for machine in range(plain.many)],
                                     [plain.may_wipe(machine) for machine in range(plain.many)])
            self.assert_alike(world, plain)
            self.assertEqual(world.settle(), plain.settle())
            self.assert_alike(world, plain)
            wiped += len(world.wiped)
            members += sum(command[0] == "members" for ledger in world.ledgers.values() for command in ledger)
        self.assertGreater(min(wiped, members), 15)


class Statements(unittest.TestCase):
    def test_drawn_worlds(self):
        told = wiped = groups = forgotten = 0
        for seed in range(220):
            one = drawn(1000 + seed, numbers_at(seed) % 1000)
            for n, choice in enumerate(one.choices):
                one.world.choose(choice)
                if n % 100 == 0:
                    check_world(self, one.world, one.deals)
            check_world(self, one.world, one.deals)
            told += sum(event[0] == "told" for event in one.world.history)
            check_settled(self, one.world, one.deals)
            wiped += len(one.world.wiped)
            groups += len(one.world.tables) - 2
            forgotten += sum(len(deals) for deals in one.deals) - sum(
                event[0] == "told" for event in one.world.history)
        self.assertGreater(min(told, wiped, groups), 30)
        self.assertGreater(forgotten, 8)

    def test_any_choices(self):
        for seed in range(120):
            source = numbers(seed)
            one = drawn(seed, 0)
            for _ in range(next(source) % 900):
                one.world.choose(next(source) % 10 ** (2 + seed % 9))
            check_world(self, one.world, one.deals)
            check_settled(self, one.world, one.deals)

    def test_the_ledgers_do_not_depend_on_what_runs(self):
        for seed in range(40):
            one = drawn(seed, 500)
            for choice in one.choices:
                one.world.choose(choice)
            before = (one.world.story(), one.world.view(), copy.deepcopy(one.world.ledgers))
            for machine in range(one.machines):
                one.world.choose(11 + 16 * machine)
            self.assertEqual((one.world.story(), one.world.view(), one.world.ledgers), before)
            self.assertEqual([machine is None for machine in one.world.machines], [True] * one.machines)
            check_settled(self, one.world, one.deals)

    def test_arguments_stay_as_they_were(self):
        for seed in range(40):
            one = drawn(seed, 300)
            before = copy.deepcopy(one.deals)
            for choice in one.choices:
                one.world.choose(choice)
            one.world.settle()
            self.assertEqual(one.deals, before)

    def test_lists_are_new(self):
        world = World(1, 1, [[[("put", 5, 7)]]])
        world.settle()
        world.story().clear()
        world.view().clear()
        self.assertEqual((world.story(), world.view()), ([(2, 0, 0)], {5: 7}))


def numbers_at(seed):
    return next(numbers(seed))


class Past(unittest.TestCase):
    def test_the_state_of_the_past_does_not_change(self):
        """The last sentence of point 42."""
        kept = 0
        for seed in range(150):
            one = drawn(seed, 600)
            world, states = one.world, []
            for n, choice in enumerate(one.choices):
                world.choose(choice)
                if n % 40 == 0:
                    states.extend(self.states(world))
            world.settle()
            kept += len(states)
            for group, time, state in states:
                table = world.tables[group]
                own = {key: value for key, value in state.items() if table.low <= key < table.high}
                self.assertEqual(state_at(table, time), own)
                later = follow(state_at(table, time), feed(table, time, 10 ** 9))
                self.assertEqual(later, state_at(table, 10 ** 9))
        self.assertGreater(kept, 1000)

    def states(self, world):
        found = []
        for group, table in world.tables.items():
            if group != 0:
                starts = [claim[1] for claim in table.picture()[4]]
                for time in range(world.tables[0].last + 1):
                    if all(start >= time for start in starts):
                        found.append((group, time, state_at(table, time)))
        return found[-8:]


if __name__ == "__main__":
    unittest.main()
