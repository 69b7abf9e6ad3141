"""Points 18 to 32: several machines with a net that delivers in any order, loses and copies, and disks that crash."""

import unittest

from helpers import counter_base, numbers, table_base
from stories import a_deal, check_story, story_of, view_of
from wholecloth.clerk import Clerk
from wholecloth.disk import Disk
from wholecloth.machine import Machine, found
from wholecloth.table import table_of

KEYS = (0, 499, 500, 999)


class Net:
    """Machines 0 to 3, of which three are members at first, and clerks that call them."""

    def __init__(self, seed, many, deals):
        self.source = numbers(seed)
        self.many = many
        members = tuple(range(min(3, many)))
        groups = [(0, counter_base(*members)), (1, table_base(*members))]
        self.machines = [found(n, Disk(), groups if n in members else []) for n in range(many)]
        self.disks = [machine.disk for machine in self.machines]
        self.clerks = [Clerk(client, many, ops) for client, ops in enumerate(deals)]
        self.net = []
        self.tokens = 0
        self.groups = 2
        self.applied = {}
        self.history = []
        # For each time that was told, the token of the call.
        self.times = {}
        self.tables = {1: table_of(groups[1][1][3])}
        self.trouble = False

    def pick(self, many):
        return next(self.source) % many

    def call(self, n, group, command):
        self.tokens += 1
        self.net.append((("host", n), ("clerk", -1), ("call", self.tokens, group, command)))

    def deliver(self, place):
        receiver, sender, letter = self.net.pop(place)
        if receiver[0] == "clerk":
            if receiver[1] == -1:
                if letter[0] == "told" and letter[2][0] == "time":
                    self.times[letter[2][1]] = self.times.get(letter[2][1], letter[1])
                    self.trouble = self.trouble or self.times[letter[2][1]] != letter[1]
                return
            clerk = self.clerks[receiver[1]]
            self.net.extend((("host", n), receiver, made) for n, made in clerk.hear(letter))
            self.history.extend(clerk.events())
            return
        machine = self.machines[receiver[1]]
        if machine is None:
            return
        if receiver[0] == "host":
            machine.call(sender[1], letter)
        else:
            machine.take(sender[1], letter)
        self.collect(receiver[1])

    def collect(self, n):
        """Take away what a machine has released and applied."""
        machine = self.machines[n]
        self.net.extend((receiver, ("machine", n), letter) for receiver, letter in machine.released())
        for group, index, command in machine.applied():
            if (group, index) not in self.applied:
                self.applied[group, index] = command
                self.execute(group, command)
            self.trouble = self.trouble or self.applied[group, index] != command

    def execute(self, group, command):
        if group == 0 or command[0] == "members":
            return
        answer = self.tables[group].run(command)
        if answer[0] == "split" and answer[2] not in self.tables:
            self.tables[answer[2]] = self.tables[group].part

    def event(self, n, name, *arguments):
        if self.machines[n] is not None:
            getattr(self.machines[n], name)(*arguments)
            self.collect(n)

    def act(self, client):
        clerk = self.clerks[client]
        self.net.extend((("host", n), ("clerk", client), letter) for n, letter in clerk.act())
        self.history.extend(clerk.events())

    def step(self):
        kind = self.pick(30)
        n = self.pick(self.many)
        group = self.pick(self.groups)
        if kind < 13 and self.net:
            self.deliver(self.pick(len(self.net)))
        elif kind == 13 and self.net:
            self.net.pop(self.pick(len(self.net)))
        elif kind == 14 and self.net:
            self.net.append(self.net[self.pick(len(self.net))])
        elif kind < 20:
            self.event(n, "sync")
        elif kind == 20 and self.pick(4) > 0:
            self.event(n, "stand", group)
        elif kind == 21:
            self.event(n, "nudge", group)
        elif kind == 22 and self.pick(4) == 0 and self.machines[n] is not None:
            self.disks[n].crash([self.pick(3) for _ in range(self.disks[n].waiting)])
            self.machines[n] = None
        elif kind == 23 and self.machines[n] is None:
            self.machines[n] = Machine(n, self.disks[n])
        elif kind == 24 and self.pick(3) == 0:
            self.event(n, "shorten", group)
        elif kind == 25 and self.machines[n] is not None and group in self.machines[n].replicas:
            members = tuple(sorted(set(self.machines[n].replicas[group].members) ^ {self.pick(self.many)}))
            self.call(n, group, ("members", members))
        elif kind == 26 and self.pick(4) == 0 and self.groups < 4:
            self.call(n, 1 + self.pick(self.groups - 1), ("split", KEYS[self.pick(4)], self.groups))
            self.groups += 1
        elif kind == 27:
            self.call(n, 0, ("next",))
        elif self.clerks:
            self.act(self.pick(len(self.clerks)))

    def start(self):
        for n in range(self.many):
            if self.machines[n] is None:
                self.machines[n] = Machine(n, self.disks[n])

    def settle(self):
        """Everything is delivered; True if all clerks become idle."""
        self.start()
        for _ in range(200):
            self.empty()
            if all(clerk.idle() for clerk in self.clerks):
                return True
            for group in range(4):
                self.lead(group)
            self.empty()
            self.act([clerk.idle() for clerk in self.clerks].index(False))
        return False

    def lead(self, group):
        having = [n for n in range(self.many) if group in self.machines[n].replicas]
        leaders = [n for n in having if self.machines[n].replicas[group].role == "leader"]
        if leaders:
            self.event(max(leaders, key=lambda n: self.machines[n].replicas[group].term), "nudge", group)
            return
        having = [n for n in having if self.machines[n].replicas[group].base is not None]
        if having:
            def newest(n):
                replica = self.machines[n].replicas[group]
                return replica.entries[-1][0] if replica.entries else replica.base[1], replica.last_index
            self.event(max(having, key=newest), "stand", group)

    def empty(self):
        for _ in range(3000):
            for n in range(self.many):
                self.event(n, "sync")
            if not self.net:
                return
            self.deliver(0)


class Nets(unittest.TestCase):
    def test_counters(self):
        many = 0
        for seed in range(160):
            net = Net(seed, 1 + seed % 4, [])
            for _ in range(800):
                net.step()
            net.start()
            for _ in range(4):
                net.empty()
                net.lead(0)
            self.assertFalse(net.trouble)
            many += len(net.times)
        self.assertGreater(many, 400)

    def test_deals(self):
        told = entries = groups = 0
        for seed in range(200):
            source = numbers(seed)
            deals = [[a_deal(lambda many: next(source) % many, KEYS) for _ in range(1 + seed % 3)]
                     for _ in range(1 + seed % 4)]
            net = Net(seed, 1 + seed % 4, deals)
            for _ in range(900):
                net.step()
            self.check(net, deals)
            self.assertTrue(net.settle(), seed)
            self.check(net, deals)
            told += sum(event[0] == "told" for event in net.history)
            entries += len(net.applied)
            groups += len(net.tables)
        self.assertEqual(told, sum((1 + seed % 3) * (1 + seed % 4) for seed in range(200)))
        self.assertGreater(entries, 8000)
        self.assertGreater(groups, 210)

    def check(self, net, deals):
        self.assertFalse(net.trouble)
        story = story_of(net.tables, deals, net.history)
        check_story(self, deals, net.history, story, view_of(net.tables))
        last = {}
        for group, index in sorted(net.applied):
            self.assertEqual(index, last.get(group, 0) + 1)
            last[group] = index


if __name__ == "__main__":
    unittest.main()
