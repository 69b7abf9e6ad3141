"""Machines: replicas above one disk, and what waits for the disk (points 25 to 28)."""

from wholecloth.journal import Journal
from wholecloth.logs import machine_of
from wholecloth.replica import Replica

# The letters for which a machine makes a replica that it has not.
MAKING = ("copy", "base", "ask")


class Machine:
    """A machine that starts on a disk with an empty cache."""

    def __init__(self, identity, disk):
        self.identity = identity
        self.disk = disk
        self.journal = Journal(disk)
        self.replicas = {}
        # What waits for a sync, and what may leave; pairs of a receiver and a letter.
        self.held = []
        self.leaving = []
        self.done = []
        self.recall()

    def recall(self):
        """Have the replicas that the journal's records make (point 27)."""
        for record in list(self.journal.records):
            group = record[1]
            if group in self.replicas:
                self.replicas[group].recall(record)
            else:
                self.replicas[group] = Replica(self.identity, group, record[2])
        for group in sorted(self.replicas):
            self.replicas[group].wake()

    def take(self, sender, letter):
        """Hand a letter to the replica of its group (point 25)."""
        group = letter[1]
        if group not in self.replicas and letter[0] in MAKING:
            self.make(group, None)
        if group in self.replicas:
            self.replicas[group].take(sender, letter)
        self.end_event([])

    def call(self, client, letter):
        """Take a call of a client (point 28)."""
        _, token, group, command = letter
        if group not in self.replicas:
            self.end_event([self.lost(client, token, None)])
        elif self.replicas[group].propose(command, (client, token)):
            self.end_event([])
        else:
            self.end_event([self.lost(client, token, self.replicas[group].leader)])

    def lost(self, client, token, leader):
        """Return the answer to a call that is not accepted, with the number of the leader's machine."""
        number = None if leader is None else machine_of(leader)
        return ("clerk", client), ("lost", token, number)

    def stand(self, group):
        """Let the replica of a group stand."""
        if group in self.replicas:
            self.replicas[group].stand()
            self.end_event([])

    def nudge(self, group):
        """Let the replica of a group nudge."""
        if group in self.replicas:
            self.replicas[group].nudge()
            self.end_event([])

    def shorten(self, group):
        """Let the replica of a group shorten its log."""
        if group in self.replicas:
            self.replicas[group].shorten()
            self.end_event([])

    def sync(self):
        """Sync the disk, release what waited for it, and tell all replicas (point 26)."""
        self.disk.sync()
        self.leaving.extend(self.held)
        self.held = []
        for group in sorted(self.replicas):
            self.replicas[group].synced()
        self.end_event([])

    def applied(self):
        """Return what has been applied since the last call: triples (group, index, command)."""
        done = self.done
        self.done = []
        return done

    def released(self):
        """Return what has been released since the last call: pairs of a receiver and a letter."""
        leaving = self.leaving
        self.leaving = []
        return leaving

    def make(self, group, base):
        """Make a replica, which is blank without a base."""
        self.journal.enter(("make", group, base))
        self.replicas[group] = Replica(self.identity, group, base)

    def bear(self, group, base):
        """Give the new group of a split its replica, unless it has one that is not blank (point 24)."""
        if group not in self.replicas:
            self.make(group, base)
            return
        self.replicas[group].adopt(base)
        self.write(self.replicas[group])

    def write(self, replica):
        """Append the records of a replica to the journal."""
        records = replica.records
        replica.records = []
        for record in records:
            self.journal.enter(record)

    def end_event(self, others):
        """Write the records of an event, and hold or release what it has produced."""
        produced = []
        for group in sorted(self.replicas):
            produced.extend(self.gather(self.replicas[group]))
        produced.extend(others)
        if self.held or self.disk.waiting > 0:
            self.held.extend(produced)
        else:
            self.leaving.extend(produced)

    def gather(self, replica):
        """Take what an event has left in a replica; return its letters and answers for others."""
        self.write(replica)
        births = replica.births
        replica.births = []
        for group, base in births:
            self.bear(group, base)
        self.done.extend([(replica.group, index, command) for index, command in replica.ledger])
        produced = [(("machine", receiver), letter) for receiver, letter in replica.letters]
        produced.extend([
            (("clerk", client), ("told", token, answer)) for (client, token), answer in replica.answers
        ])
        replica.ledger = []
        replica.letters = []
        replica.answers = []
        return produced


def found(identity, disk, groups):
    """Make the replicas of groups, pairs of a group and a base, on an empty disk; return a machine on it."""
    journal = Journal(disk)
    for group, base in groups:
        journal.enter(("make", group, base))
    disk.sync()
    return Machine(identity, disk)
