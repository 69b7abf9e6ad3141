"""Replicas: what one machine keeps of the log of one group (points 19 to 25)."""

from wholecloth.logs import are_identities, difference, is_change, is_majority, members_of, state_of

FOLLOWER = "follower"
CANDIDATE = "candidate"
LEADER = "leader"
# The command that changes nothing.
NOTHING = ("none",)


class Replica:
    """A replica of a group on the machine with the identity `me`; without a base it is blank."""

    def __init__(self, me, group, base):
        self.me = me
        self.group = group
        self.term = 0
        self.voted = None
        self.base = base
        self.entries = []
        self.role = FOLLOWER
        self.leader = None
        self.committed = -1
        self.applied = -1
        self.durable = -1
        self.state = None
        # What the machine takes away after each event.
        self.ledger = []
        self.records = []
        self.letters = []
        self.answers = []
        self.births = []
        # A candidate's: who has granted its vote.
        self.votes = {}
        # A leader's: the next and the known index of each member, and the tokens of proposals by their indexes.
        self.ahead = {}
        self.known = {}
        self.tokens = {}
        self.wake()

    @property
    def last_index(self):
        """The index of the last entry, or of the base, or -1."""
        if self.base is None:
            return -1
        return self.base[0] + len(self.entries)

    @property
    def members(self):
        """The members by the last members entry, committed or not."""
        return self.members_at(self.last_index)

    def members_at(self, index):
        """Return the members by the entries up to an index."""
        if self.base is None:
            return ()
        return members_of(self.base, self.entries, index - self.base[0])

    def others(self):
        """Return the list of all members but this one."""
        return [member for member in self.members if member != self.me]

    def entry_at(self, index):
        """Return the entry at an index behind the base."""
        return self.entries[index - self.base[0] - 1]

    def term_at(self, index):
        """Return the term of the entry at an index, or of the base."""
        if index == self.base[0]:
            return self.base[1]
        return self.entry_at(index)[0]

    def last_term(self):
        """Return the term of the last entry, or of the base, or 0."""
        if self.base is None:
            return 0
        return self.term_at(self.last_index)

    def has_entry(self, index, term):
        """Tell whether there is an entry behind the base at this index, with this term."""
        return self.base is not None and self.base[0] < index <= self.last_index and self.term_at(index) == term

    def recall(self, record):
        """Change as a record of the journal tells (point 27); `wake` follows behind the last one."""
        match record:
            case ("make", _, base):
                if self.base is None and base is not None:
                    self.move_base(base)
            case ("term", _, term, voted):
                self.term = term
                self.voted = voted
            case ("entry", _, index, term, command):
                del self.entries[index - self.base[0] - 1:]
                self.entries.append((term, command))
            case ("base", _, base):
                self.move_base(base)

    def wake(self):
        """Begin at the base, as a replica does when its machine starts: all entries are synced."""
        self.durable = self.last_index
        if self.base is not None:
            self.state = state_of(self.base)
            self.committed = self.base[0]
            self.applied = self.base[0]

    def move_base(self, base):
        """Replace the base; the entries behind it stay if there is one at its index with its term."""
        kept = []
        if self.has_entry(base[0], base[1]):
            kept = self.entries[base[0] - self.base[0]:]
        self.base = base
        self.entries = kept
        self.durable = max(base[0], min(self.durable, self.last_index))

    def restart_at(self, base):
        """Take a base whose index is beyond all that is committed here."""
        self.move_base(base)
        self.records.append(("base", self.group, base))
        self.state = state_of(base)
        self.committed = base[0]
        self.applied = base[0]

    def adopt(self, base):
        """Give a blank replica its base (point 24)."""
        if self.base is None:
            self.restart_at(base)

    def shorten(self):
        """Move the base up to what has been applied (point 22)."""
        if self.base is None or self.applied <= self.base[0]:
            return
        members = self.members_at(self.applied)
        base = (self.applied, self.term_at(self.applied), members, self.state.picture())
        self.move_base(base)
        self.records.append(("base", self.group, base))

    def set_term(self, term, voted):
        """Change the term and the vote."""
        self.term = term
        self.voted = voted
        self.records.append(("term", self.group, term, voted))

    def attach(self, entry):
        """Append an entry."""
        self.entries.append(entry)
        term, command = entry
        self.records.append(("entry", self.group, self.last_index, term, command))

    def stand(self):
        """Become a candidate, unless this is the leader or blank."""
        if self.base is None or self.role == LEADER:
            return
        self.set_term(self.term + 1, self.me)
        self.role = CANDIDATE
        self.leader = None
        self.votes = {self.me: True}
        for member in self.others():
            self.letters.append((member, ("ask", self.group, self.term, self.last_index, self.last_term())))
        self.count_votes()

    def count_votes(self):
        """Become the leader with the votes of a majority of the members."""
        members = self.members
        if is_majority([member for member in members if member in self.votes], members):
            self.take_lead()

    def take_lead(self):
        """Become the leader."""
        self.role = LEADER
        self.leader = self.me
        self.ahead = {}
        self.known = {}
        self.tokens = {}
        self.expect(self.members)
        self.attach((self.term, NOTHING))
        self.nudge()

    def expect(self, members):
        """Assume that members have nothing beyond the last index."""
        for member in members:
            self.ahead[member] = self.last_index + 1
            self.known[member] = -1

    def nudge(self):
        """Send to all other members, if this is the leader."""
        if self.role == LEADER:
            for member in self.others():
                self.send_to(member)

    def send_to(self, member):
        """Send what a member lacks: entries, or the base if they are not here any longer."""
        index = self.ahead[member] - 1
        if index < self.base[0]:
            letter = ("base", self.group, self.term, self.base)
        else:
            pairs = tuple(self.entries[index - self.base[0]:])
            letter = ("copy", self.group, self.term, index, self.term_at(index), pairs, self.committed)
        self.letters.append((member, letter))

    def propose(self, command, token):
        """Append a command, if this is the leader and the command is allowed; tell whether it was."""
        if self.role != LEADER:
            return False
        if is_change(command):
            if not self.may_become(command[1]):
                return False
            members = self.members
            self.expect([member for member in command[1] if member not in members])
        self.attach((self.term, command))
        self.tokens[self.last_index] = token
        self.nudge()
        return True

    def may_become(self, identities):
        """Tell whether the leader accepts these members."""
        if not are_identities(identities) or len(difference(identities, self.members)) != 1:
            return False
        if self.term_at(self.committed) != self.term:
            return False
        waiting = self.entries[self.committed - self.base[0]:]
        return not any([is_change(command) for _, command in waiting])

    def synced(self):
        """Take note that all entries are synced."""
        self.durable = self.last_index
        self.commit_kept()

    def commit_kept(self):
        """Commit what a majority has, if this is the leader."""
        if self.role == LEADER:
            self.commit(self.kept_index())

    def kept_index(self):
        """Return the greatest index of an entry of this term that a majority has, or the committed one."""
        members = self.members
        reached = {member: self.known[member] for member in members if member != self.me}
        if self.me in members:
            reached[self.me] = self.durable
        for index in range(self.last_index, self.committed, -1):
            having = [member for member in members if reached[member] >= index]
            if self.term_at(index) == self.term and is_majority(having, members):
                return index
        return self.committed

    def commit(self, index):
        """Take note that the entries up to an index are committed, and apply them."""
        self.committed = max(self.committed, index)
        while self.applied < self.committed:
            self.apply(self.applied + 1)

    def apply(self, index):
        """Apply the entry at an index, the one behind the last that was applied."""
        command = self.entry_at(index)[1]
        answer = self.state.run(NOTHING if is_change(command) else command)
        self.applied = index
        self.ledger.append((index, command))
        if self.role == LEADER and index in self.tokens:
            self.answers.append((self.tokens[index], answer))
        if answer[0] == "split":
            base = (0, 0, self.members_at(index), self.state.part.picture())
            self.births.append((answer[2], base))

    def take(self, sender, letter):
        """Handle a letter from another replica of the group (point 22)."""
        word = letter[0]
        term = letter[2]
        if term < self.term:
            self.refuse(sender, word)
            return
        if term > self.term:
            self.set_term(term, None)
            self.role = FOLLOWER
            self.leader = None
        match letter:
            case ("ask", _, _, last_index, last_term):
                self.vote(sender, last_index, last_term)
            case ("vote", _, _, granted):
                self.take_vote(sender, granted)
            case ("copy", _, _, index, index_term, entries, committed):
                self.follow(sender)
                self.take_copy(index, index_term, entries, committed)
            case ("base", _, _, base):
                self.follow(sender)
                self.take_base(base)
            case ("got", _, _, good, index):
                self.take_got(sender, good, index)

    def refuse(self, sender, word):
        """Answer a letter of a lesser term, if it wants an answer."""
        if word == "ask":
            self.letters.append((sender, ("vote", self.group, self.term, False)))
        elif word in ("copy", "base"):
            self.letters.append((sender, ("got", self.group, self.term, False, self.last_index)))

    def vote(self, sender, last_index, last_term):
        """Grant a vote or not."""
        granted = self.voted in (None, sender) and (last_term, last_index) >= (self.last_term(), self.last_index)
        if granted and self.voted is None:
            self.set_term(self.term, sender)
        self.letters.append((sender, ("vote", self.group, self.term, granted)))

    def take_vote(self, sender, granted):
        """Count a vote of this term, if this is a candidate."""
        if self.role == CANDIDATE and granted:
            self.votes[sender] = True
            self.count_votes()

    def follow(self, sender):
        """Be a follower of a leader."""
        self.role = FOLLOWER
        self.leader = sender

    def got(self, good, index):
        """Answer the leader."""
        self.letters.append((self.leader, ("got", self.group, self.term, good, index)))

    def take_copy(self, index, index_term, pairs, committed):
        """Take the leader's entries behind an index."""
        if self.base is None or index > self.last_index:
            self.got(False, self.last_index)
        elif index >= self.base[0] and self.term_at(index) != index_term:
            self.got(False, index - 1)
        else:
            for at, pair in enumerate(pairs, start=index + 1):
                self.take_entry(at, pair)
            self.commit(min(committed, index + len(pairs)))
            self.got(True, index + len(pairs))

    def take_entry(self, index, entry):
        """Take one of the leader's entries, if it is not here yet."""
        if index <= self.base[0] or self.has_entry(index, entry[0]):
            return
        # An entry of another term goes, and all behind it.
        del self.entries[index - self.base[0] - 1:]
        self.durable = min(self.durable, self.last_index)
        self.attach(entry)

    def take_base(self, base):
        """Take the leader's base, unless what it says is known here."""
        if self.has_entry(base[0], base[1]):
            self.commit(base[0])
        elif self.base is None or base[0] > self.committed:
            self.restart_at(base)
        self.got(True, base[0])

    def take_got(self, sender, good, index):
        """Take note of what a member has, if this is the leader."""
        if self.role != LEADER or sender not in self.members:
            return
        if good:
            self.known[sender] = max(self.known[sender], index)
            self.ahead[sender] = self.known[sender] + 1
        else:
            self.ahead[sender] = min(max(self.ahead[sender] - 1, 0), index + 1)
            self.send_to(sender)
        self.commit_kept()
