"""Worlds: machines and clerks, the net between them, and the choices that drive them (points 33 to 40)."""

from wholecloth.clerk import Clerk
from wholecloth.counter import Counter
from wholecloth.disk import Disk
from wholecloth.holders import are_enough, holders, is_kept_without, replicas_of
from wholecloth.logs import is_change, machine_of
from wholecloth.machine import Machine, found
from wholecloth.meaning import KEYS
from wholecloth.stories import decided_deals, is_changing, last_values, values_to_come
from wholecloth.table import Table

MOST_LETTERS = 400
MOST_GROUPS = 6
# The most letters that are delivered while the net is emptied.
MOST_DELIVERED = 4000
# The most writes of a crash that have a fate of their own.
MOST_FATES = 60
OPERATOR = ("clerk", -1)


class World:
    """Machines, of which the first `members` are members of the first two groups, and clients with lists of deals."""

    def __init__(self, machines, members, deals):
        self.net = []
        self.identities = list(range(machines))
        self.disks = [Disk() for _ in range(machines)]
        self.clerks = [Clerk(client, machines, ops) for client, ops in enumerate(deals)]
        self.groups = 2
        self.history = []
        self.wiped = []
        self.ledgers = {0: [], 1: []}
        self.tables = {0: Counter(), 1: Table(0, KEYS)}
        # The last token of the operator.
        self.token = 0
        first = tuple(range(members))
        bases = [(group, (0, 0, first, self.tables[group].picture())) for group in (0, 1)]
        self.machines = [
            found(number, disk, bases if number < members else []) for number, disk in enumerate(self.disks)
        ]

    def choose(self, choice):
        """Do what a choice says; nothing if it is not possible (point 35)."""
        kind = choice % 16
        number = choice // 16
        if kind < 8:
            self.choose_letter(kind, number)
        elif kind < 13:
            self.choose_machine(kind, number)
        elif kind < 15:
            self.choose_client(kind, number)
        else:
            self.choose_deed(number % 5, number // 5)

    def choose_letter(self, kind, number):
        """Deliver, lose or copy a letter of the net."""
        if len(self.net) == 0:
            return
        place = number % len(self.net)
        if kind < 6:
            self.deliver(place)
        elif kind == 6:
            del self.net[place]
        else:
            self.post([self.net[place]])

    def choose_machine(self, kind, number):
        """Let a machine sync, let one of its replicas stand or nudge, let it crash, or start it."""
        at = number % len(self.machines)
        rest = number // len(self.machines)
        if kind == 12:
            self.start_machine(at)
        elif self.machines[at] is None:
            return
        elif kind == 10:
            self.rouse(at, rest % self.groups)
        elif kind == 11:
            self.crash(at, rest)
        else:
            self.sync(at)

    def choose_client(self, kind, number):
        """Let a clerk act or forget."""
        if len(self.clerks) == 0:
            return
        client = number % len(self.clerks)
        if kind == 14 and number // 4 % 4 == 0:
            self.clerks[client].forget()
        else:
            self.act(client)

    def choose_deed(self, deed, number):
        """Let the operator do something."""
        if deed == 0:
            self.wipe(number % len(self.machines))
        elif deed == 1:
            self.ask_split(number)
        elif deed == 2:
            self.change_members(number)
        elif deed == 3:
            at = number % len(self.machines)
            group = number // len(self.machines) % self.groups
            if self.holds(at, group):
                self.machines[at].shorten(group)
                self.collect(at)

    def post(self, letters):
        """Append letters to the net; the oldest ones go if there are too many."""
        self.net.extend(letters)
        del self.net[:max(0, len(self.net) - MOST_LETTERS)]

    def post_calls(self, client, calls):
        """Append the calls of a clerk to the net, and its events to the history."""
        sender = ("clerk", client)
        self.post([(("host", number), sender, letter) for number, letter in calls])
        self.history.extend(self.clerks[client].events())

    def deliver(self, place):
        """Deliver a letter of the net, if its receiver is there."""
        receiver, sender, letter = self.net[place]
        del self.net[place]
        kind, number = receiver
        if kind == "clerk":
            if number >= 0:
                self.post_calls(number, self.clerks[number].hear(letter))
        elif kind == "host":
            if self.machines[number] is not None:
                self.machines[number].call(sender[1], letter)
                self.collect(number)
        else:
            self.deliver_to_machine(number, sender, letter)

    def deliver_to_machine(self, identity, sender, letter):
        """Deliver a letter to the running machine of exactly this identity."""
        at = machine_of(identity)
        if identity in self.identities and self.machines[at] is not None:
            self.machines[at].take(sender[1], letter)
            self.collect(at)

    def collect(self, at):
        """Take what a machine has applied and released."""
        machine = self.machines[at]
        for group, index, command in machine.applied():
            if index > len(self.ledgers[group]):
                self.ledgers[group].append(command)
                self.execute(group, command)
        sender = ("machine", machine.identity)
        self.post([(receiver, sender, letter) for receiver, letter in machine.released()])

    def execute(self, group, command):
        """Execute a command of a ledger on the group's table (point 39)."""
        if is_change(command):
            return
        answer = self.tables[group].run(command)
        if answer[0] == "split":
            self.tables[answer[2]] = self.tables[group].part
            self.ledgers[answer[2]] = []

    def start_machine(self, at):
        """Start a machine, if it is stopped."""
        if self.machines[at] is None:
            self.machines[at] = Machine(self.identities[at], self.disks[at])

    def sync(self, at):
        """Let a running machine sync."""
        self.machines[at].sync()
        self.collect(at)

    def rouse(self, at, group):
        """Let a replica of a running machine nudge if it is the leader, and stand otherwise."""
        machine = self.machines[at]
        if group not in machine.replicas:
            return
        if machine.replicas[group].role == "leader":
            machine.nudge(group)
        else:
            machine.stand(group)
        self.collect(at)

    def crash(self, at, number):
        """Crash a running machine; the digits of the number are the fates of the writes of the cache."""
        fates = []
        rest = number
        for _ in range(MOST_FATES):
            fates.append(rest % 3)
            rest = rest // 3
        self.disks[at].crash(fates)
        self.machines[at] = None

    def act(self, client):
        """Let a clerk act."""
        self.post_calls(client, self.clerks[client].act())

    def holds(self, at, group):
        """Tell whether a machine is running and has a replica of a group that is not blank."""
        return self.machines[at] is not None and len(replicas_of([self.machines[at]], group)) > 0

    def is_writing(self):
        """Tell whether any disk has a write in its cache."""
        return any([disk.waiting > 0 for disk in self.disks])

    def present(self):
        """Return the list of all machines, stopped ones as they would be if they started now."""
        return [
            Machine(identity, disk) if machine is None else machine
            for machine, identity, disk in zip(self.machines, self.identities, self.disks)
        ]

    def may_wipe(self, machine):
        """Tell whether the machine with this number may be wiped (point 36)."""
        if self.is_writing():
            return False
        present = self.present()
        identity = self.identities[machine]
        return all([is_kept_without(present, self.net, group, identity) for group in range(self.groups)])

    def wipe(self, at):
        """Wipe a machine, if it may be wiped."""
        if self.may_wipe(at):
            self.wiped.append(self.identities[at])
            self.disks[at].wipe()
            self.identities[at] += 100
            self.machines[at] = None

    def next_call(self, group, command):
        """Return a call of the operator with a token of its own."""
        self.token += 1
        return "call", self.token, group, command

    def ask_split(self, number):
        """Let the operator call a machine to split a group."""
        if self.groups < MOST_GROUPS:
            group = 1 + number % (self.groups - 1)
            letter = self.next_call(group, ("split", number // 7 % KEYS, self.groups))
            self.groups += 1
            self.post([(("host", number // 7000 % len(self.machines)), OPERATOR, letter)])

    def change_members(self, number):
        """Let the operator call a machine to add a member to a group or to remove one."""
        group = number % self.groups
        at = number // 343 % len(self.machines)
        if self.is_writing() or not self.holds(at, group):
            return
        members = self.machines[at].replicas[group].members
        candidates = sorted(set(list(members) + self.identities))
        chosen = candidates[number // 7 % len(candidates)]
        identities = tuple([one for one in candidates if (one in members) != (one == chosen)])
        if are_enough(holders(self.present(), group), identities):
            self.machines[at].call(-1, self.next_call(group, ("members", identities)))
            self.collect(at)

    def settle(self):
        """Let all that is at work come to its end; tell whether it did (point 38)."""
        for at in range(len(self.machines)):
            self.start_machine(at)
        left = sum([len(clerk.deals) - clerk.number for clerk in self.clerks])
        for _ in range(100 + 100 * left):
            self.empty_net()
            if len(self.working()) == 0:
                return True
            for group in range(self.groups):
                self.rouse_best(group)
            self.empty_net()
            # What was delivered since may have brought deals to their end.
            working = self.working()
            if len(working) > 0:
                self.act(working[0])
        return False

    def working(self):
        """Return the list of the clients with a deal at work or left, or an open call."""
        return [client for client, clerk in enumerate(self.clerks) if not clerk.idle()]

    def empty_net(self):
        """Let all machines sync and deliver letters until there is none (point 38)."""
        for _ in range(MOST_DELIVERED):
            for at in range(len(self.machines)):
                self.sync(at)
            if len(self.net) == 0:
                return
            self.deliver(0)

    def rouse_best(self, group):
        """Let the leader of a group with the greatest term nudge, or, without one, the newest replica stand."""
        having = []
        for at, machine in enumerate(self.machines):
            having.extend([(at, replica) for replica in replicas_of([machine], group)])
        # Of equal ones the one of the machine with the lowest number.
        ranks = [(replica.term, -at) for at, replica in having if replica.role == "leader"]
        if len(ranks) == 0:
            ranks = [(replica.last_term(), replica.last_index, -at) for at, replica in having]
        if len(ranks) > 0:
            self.rouse(-max(ranks)[-1], group)

    def story(self):
        """Return the list of the triples (time, client, n) of the deals that took place (point 40)."""
        triples = decided_deals([self.tables[group] for group in self.tables if group != 0])
        for event in self.history:
            if event[0] == "told" and not is_changing(self.clerks[event[1]].deals[event[2]], event[3]):
                triples.append((event[5], event[1], event[2]))
        return sorted(set(triples))

    def view(self):
        """Return the dictionary of the values behind the story (point 40)."""
        view = {}
        for group in self.tables:
            if group != 0:
                for key, value in last_values(self.tables[group]) + values_to_come(self.tables[group], self.tables):
                    view[key] = value
        return {key: view[key] for key in sorted(view) if view[key] is not None}
