"""Points 19 to 24: many events in any order, beside a second, plainer reading of these points."""

import unittest

from helpers import counter_base, emptied, numbers, table_base
from wholecloth.counter import Counter
from wholecloth.replica import Replica
from wholecloth.table import table_of

NONE = ("none",)


class Model:
    """A replica whose log is one dictionary from indexes to entries, those below the base included."""

    def __init__(self, me, group, base):
        self.me, self.group, self.base = me, group, None
        self.term, self.voted, self.role, self.leader = 0, None, "follower", None
        self.log, self.last, self.committed, self.applied, self.durable, self.state = {}, -1, -1, -1, -1, None
        self.out = {"letters": [], "records": [], "answers": [], "births": [], "ledger": []}
        self.granted, self.following, self.known, self.tokens = set(), {}, {}, {}
        if base is not None:
            self.set_base(base)

    def set_base(self, base):
        self.base = base
        self.log = {}
        self.last = self.committed = self.applied = self.durable = base[0]
        self.state = Counter(base[3][1]) if base[3][0] == "counter" else table_of(base[3])

    def members(self, upto=None):
        if self.base is None:
            return ()
        found = self.base[2]
        for index in range(self.base[0] + 1, (self.last if upto is None else upto) + 1):
            command = self.log[index][1]
            if command[0] == "members" and len(command) == 2:
                found = command[1]
        return found

    def term_of(self, index):
        return self.base[1] if index == self.base[0] else self.log[index][0]

    def newest(self):
        return (0, -1) if self.base is None else (self.term_of(self.last), self.last)

    def send(self, receiver, *letter):
        self.out["letters"].append((receiver, (letter[0], self.group, self.term) + letter[1:]))

    def to_member(self, member):
        index = self.following[member] - 1
        if index + 1 > self.base[0]:
            pairs = tuple(self.log[at] for at in range(index + 1, self.last + 1))
            self.send(member, "copy", index, self.term_of(index), pairs, self.committed)
        else:
            self.send(member, "base", self.base)

    def to_others(self):
        for member in sorted(set(self.members()) - {self.me}):
            self.to_member(member)

    def push(self, term, command):
        self.last += 1
        self.log[self.last] = (term, command)
        self.out["records"].append(("entry", self.group, self.last, term, command))

    def stand(self):
        if self.base is None or self.role == "leader":
            return
        self.term, self.voted, self.role, self.leader = self.term + 1, self.me, "candidate", None
        self.out["records"].append(("term", self.group, self.term, self.me))
        self.granted = {self.me}
        last_term, last = self.newest()
        for member in sorted(set(self.members()) - {self.me}):
            self.send(member, "ask", last, last_term)
        self.elect()

    def elect(self):
        if 2 * len(self.granted & set(self.members())) > len(self.members()):
            self.role, self.leader, self.tokens = "leader", self.me, {}
            self.following = {member: self.last + 1 for member in self.members()}
            self.known = {member: -1 for member in self.members()}
            self.push(self.term, NONE)
            self.to_others()

    def look(self):
        if self.role != "leader":
            return
        best = self.committed
        for index in range(self.committed + 1, self.last + 1):
            having = sum((self.durable if member == self.me else self.known[member]) >= index
                         for member in self.members())
            if 2 * having > len(self.members()) and self.log[index][0] == self.term:
                best = index
        self.commit(best)

    def commit(self, index):
        if index <= self.committed:
            return
        self.committed = index
        for at in range(self.applied + 1, index + 1):
            command = self.log[at][1]
            change = command[0] == "members" and len(command) == 2
            answer = self.state.run(NONE if change else command)
            self.applied = at
            self.out["ledger"].append((at, command))
            if self.role == "leader" and at in self.tokens:
                self.out["answers"].append((self.tokens[at], answer))
            if answer[0] == "split":
                born = (answer[2], (0, 0, self.members(at), self.state.part.picture()))
                self.out["births"].append(born)

    def propose(self, command, token):
        if self.role != "leader":
            return False
        if command[0] == "members" and len(command) == 2:
            wanted, now = command[1], self.members()
            if not isinstance(wanted, tuple) or not 1 <= len(wanted) <= 5 or list(wanted) != sorted(set(wanted)):
                return False
            if len(set(wanted) ^ set(now)) != 1 or self.term_of(self.committed) != self.term:
                return False
            if any(self.log[at][1][0] == "members" and len(self.log[at][1]) == 2
                   for at in range(self.committed + 1, self.last + 1)):
                return False
            for member in set(wanted) - set(now):
                self.following[member], self.known[member] = self.last + 1, -1
        self.push(self.term, command)
        self.tokens[self.last] = token
        self.to_others()
        return True

    def nudge(self):
        if self.role == "leader":
            self.to_others()

    def synced(self):
        self.durable = self.last
        self.look()

    def shorten(self):
        if self.base is not None and self.applied > self.base[0]:
            base = (self.applied, self.term_of(self.applied), self.members(self.applied), self.state.picture())
            self.base = base
            self.durable = max(self.durable, self.applied)
            self.out["records"].append(("base", self.group, base))

    def adopt(self, base):
        if self.base is None:
            self.set_base(base)
            self.out["records"].append(("base", self.group, base))

    def take(self, sender, letter):
        word, _, term = letter[:3]
        if term < self.term:
            if word == "ask":
                self.send(sender, "vote", False)
            if word in ("copy", "base"):
                self.send(sender, "got", False, self.last)
            return
        if term > self.term:
            self.term, self.voted, self.role, self.leader = term, None, "follower", None
            self.out["records"].append(("term", self.group, term, None))
        if word in ("copy", "base"):
            self.role, self.leader = "follower", sender
        getattr(self, "take_" + word)(sender, *letter[3:])

    def take_ask(self, sender, last, last_term):
        mine_term, mine = self.newest()
        fine = last_term > mine_term or (last_term == mine_term and last >= mine)
        granted = fine and (self.voted is None or self.voted == sender)
        if granted and self.voted is None:
            self.voted = sender
            self.out["records"].append(("term", self.group, self.term, sender))
        self.send(sender, "vote", granted)

    def take_vote(self, sender, granted):
        if granted and self.role == "candidate":
            self.granted.add(sender)
            self.elect()

    def take_copy(self, sender, index, index_term, pairs, committed):
        if index > self.last:
            self.send(sender, "got", False, self.last)
            return
        if index >= self.base[0] and self.term_of(index) != index_term:
            self.send(sender, "got", False, index - 1)
            return
        for n, (term, command) in enumerate(pairs):
            at = index + 1 + n
            if at <= self.base[0]:
                continue
            if at <= self.last:
                if self.log[at][0] == term:
                    continue
                self.last = at - 1
                self.durable = min(self.durable, self.last)
            self.push(term, command)
        self.commit(min(committed, index + len(pairs)))
        self.send(sender, "got", True, index + len(pairs))

    def take_base(self, sender, base):
        if self.base is not None and self.base[0] < base[0] <= self.last and self.log[base[0]][0] == base[1]:
            self.commit(base[0])
        elif base[0] > self.committed:
            self.set_base(base)
            self.out["records"].append(("base", self.group, base))
        self.send(sender, "got", True, base[0])

    def take_got(self, sender, good, index):
        if self.role != "leader" or sender not in self.members():
            return
        if good:
            self.known[sender] = max(self.known[sender], index)
            self.following[sender] = self.known[sender] + 1
        else:
            self.following[sender] = min(max(0, self.following[sender] - 1), index + 1)
            self.to_member(sender)
        self.look()


def a_command(pick, n, members=()):
    """A command, perhaps a change of the members."""
    identities = tuple(sorted(set(members) ^ {pick(5)} ^ ({pick(5)} if pick(4) == 0 else set())))
    return [NONE, ("drop", (0, n, 0)), ("next",), ("split", 10 + pick(900), 2 + n), ("members", identities),
            ("members", identities), ("members",), ("read", (1, n, 0), n, 0, 900), ("unknown",)][pick(9)]


def a_base(pick, group, index, term):
    members = tuple(sorted({pick(5), pick(5), pick(5)}))
    if group == 0:
        return counter_base(*members, index=index, term=term, last=pick(9))
    return table_base(*members, index=index, term=term)


class History:
    """Events of one replica that might come from real ones, beside the model."""

    def __init__(self, seed):
        self.source = numbers(seed)
        self.group = min(1, self.pick(4))
        base = None if self.pick(6) == 0 else a_base(self.pick, self.group, self.pick(4), 1)
        self.both = (Replica(self.pick(2), self.group, base), Model(0, self.group, base))
        self.both[1].me = self.both[0].me
        self.n = 0

    def pick(self, many):
        return next(self.source) % many

    def a_letter(self):
        model = self.both[1]
        term = max(0, model.term + (self.pick(3) - 1 if self.pick(8) == 0 else 0))
        word = ("ask", "vote", "copy", "copy", "base", "got", "got")[self.pick(7)]
        if self.pick(4) > 0:
            word = {"candidate": "vote", "leader": "got", "follower": word}[model.role]
        near = max(0, model.last + self.pick(5) - 3)
        if word == "ask":
            return (word, self.group, term, near, max(0, term - self.pick(2)))
        if word == "vote":
            return (word, self.group, term, self.pick(3) > 0)
        if word == "got":
            return (word, self.group, term, self.pick(3) > 0, min(near, model.last))
        if word == "base":
            return (word, self.group, term, a_base(self.pick, self.group, max(near, 1), max(1, term - 1)))
        return self.a_copy(term)

    def a_copy(self, term):
        model = self.both[1]
        low = model.base[0] if model.base else 0
        index = max(0, low - 2, model.committed - 2) + self.pick(6)
        known = low <= index <= model.last
        index_term = model.term_of(index) if known and self.pick(4) else max(1, term - 1)
        pairs = []
        for at in range(index + 1, index + 1 + self.pick(4)):
            # What is committed never comes in another form.
            if at in model.log and (at <= model.committed or (at <= model.last and self.pick(3))):
                pairs.append(model.log[at])
            else:
                pairs.append((max(1, term - (self.pick(4) == 0)), a_command(self.pick, self.n)))
        return ("copy", self.group, term, index, index_term, tuple(pairs), max(0, index - 1 + self.pick(4)))

    def an_event(self):
        """The name of a method and its arguments."""
        self.n += 1
        kind = self.pick(12)
        if kind < 6:
            return "take", (self.pick(5), self.a_letter())
        if kind == 6:
            return "stand", ()
        if kind == 7:
            return "adopt", (a_base(self.pick, self.group, 0, 0),)
        if kind < 10:
            return ("propose", (a_command(self.pick, self.n, self.both[1].members()), self.n))
        return (("nudge", "synced", "synced", "shorten")[self.pick(4)], ())


class Histories(unittest.TestCase):
    def assert_alike(self, real, model):
        self.assertEqual(emptied(real), model.out)
        for name in model.out:
            model.out[name] = []
        for name in ("term", "voted", "base", "role", "leader", "committed", "applied", "durable"):
            self.assertEqual(getattr(real, name), getattr(model, name), name)
        low = 0 if model.base is None else model.base[0]
        self.assertEqual(real.entries, [model.log[at] for at in range(low + 1, model.last + 1)])
        self.assertEqual((real.last_index, real.members), (model.last, model.members()))
        if model.state is None:
            self.assertIsNone(real.state)
        else:
            self.assertEqual(real.state.picture(), model.state.picture())

    def test_they_are_alike(self):
        seen = {"follower": 0, "candidate": 0, "leader": 0}
        births = answers = accepted = 0
        for seed in range(1600):
            history = History(seed)
            real, model = history.both
            for _ in range(60):
                name, arguments = history.an_event()
                results = [getattr(replica, name)(*arguments) for replica in history.both]
                self.assertEqual(results[0], results[1])
                births += len(real.births)
                answers += len(real.answers)
                accepted += name == "propose" and results[0] and arguments[0][0] == "members"
                self.assert_alike(real, model)
                seen[real.role] += 1
        self.assertGreater(min(seen.values()), 3000)
        self.assertGreater(min(births, answers, accepted), 200)


if __name__ == "__main__":
    unittest.main()
