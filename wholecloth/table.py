"""Tables: the states of groups of keys, and the commands that change them (points 13 to 15 and 17)."""

from wholecloth.stretches import clip, inside


class Claim:
    """What a prepared deal reads and changes, its start time and its lead group."""

    def __init__(self, start, spans, changes, lead):
        self.start = start
        self.spans = spans
        self.changes = changes
        self.lead = lead

    def changes_in(self, stretch):
        """Return the tuple of the changes of keys of a stretch."""
        low, high = stretch
        return tuple([change for change in self.changes if low <= change[0] < high])

    def is_read_by(self, other):
        """Tell whether this deal changes a key of the other one's spans."""
        return any([len(self.changes_in(span)) > 0 for span in other.spans])

    def conflicts(self, other):
        """Tell whether two deals conflict (point 14)."""
        if self.is_read_by(other) or other.is_read_by(self):
            return True
        return any([mine[0] == theirs[0] for mine in self.changes for theirs in other.changes])

    def within(self, stretch):
        """Return the claim that a table of this stretch keeps of this one (point 15)."""
        clipped = [clip(span, stretch) for span in self.spans]
        spans = tuple([span for span in clipped if span is not None])
        return Claim(self.start, spans, self.changes_in(stretch), self.lead)

    def is_empty(self):
        """Tell whether the deal reads and changes nothing."""
        return len(self.spans) + len(self.changes) == 0


def with_version(pairs, time, value):
    """Return the versions of a key with one more; one of the same time is replaced."""
    others = [pair for pair in pairs if pair[0] != time]
    return tuple(sorted(others + [(time, value)]))


def value_at(pairs, time):
    """Return the value of the last version whose time is at most this time, or None."""
    last = None
    for moment, value in pairs:
        if moment <= time:
            last = value
    return last


class Table:
    """The state of a group of keys."""

    def __init__(self, low, high):
        self.low = low
        self.high = high
        self.signs = []
        self.part = None
        # For each key that has versions, the tuple of their pairs (time, value).
        self.past = {}
        # For each prepared deal its claim.
        self.claims = {}
        # For each decided deal the time of its commit, or 0.
        self.decided = {}

    def run(self, command):
        """Execute a command and return its answer (point 14)."""
        match command:
            case ("read", deal, time, low, high):
                return self.read(deal, time, (low, high))
            case ("prepare", deal, start, spans, changes, lead):
                return self.prepare(deal, Claim(start, spans, changes, lead))
            case ("decide", deal, time):
                return self.decide(deal, time)
            case ("drop", deal):
                return self.drop(deal)
            case ("finish", deal, time):
                return self.finish(deal, time)
            case ("split", key, group):
                return self.divide(key, group)
            case ("none",):
                return ("none",)
            case _:
                return ("unknown",)

    def value(self, key, time):
        """Return the value of a key at a time, or None."""
        return value_at(self.past.get(key, ()), time)

    def versions(self, key):
        """Return the list of the pairs (time, value) of a key, in ascending order of time."""
        return list(self.past.get(key, ()))

    def prepared(self):
        """Return the list of the identifiers of the prepared deals, in ascending order."""
        return sorted(self.claims)

    def decision(self, deal):
        """Return the time of a deal's commit, 0 if it was dropped, None if it is not decided."""
        return self.decided.get(deal)

    def picture(self):
        """Return the record of the whole state (point 17)."""
        prepared = []
        for deal in sorted(self.claims):
            claim = self.claims[deal]
            prepared.append((deal, claim.start, claim.spans, claim.changes, claim.lead))
        versions = tuple([(key, self.past[key]) for key in sorted(self.past)])
        decisions = tuple([(deal, self.decided[deal]) for deal in sorted(self.decided)])
        return "table", self.low, self.high, versions, tuple(prepared), decisions, tuple(self.signs)

    def away(self):
        """Return the answer to a command for keys that are not all here."""
        return "away", tuple(self.signs)

    def busy_with(self, deals):
        """Return the answer to a command that these prepared deals are in the way of."""
        first = min([(self.claims[deal].start, deal) for deal in deals])[1]
        return "busy", first, self.claims[first].lead

    def has(self, stretch):
        """Tell whether a stretch is not empty, and all its keys are here."""
        return inside(stretch, (self.low, self.high))

    def read(self, deal, time, stretch):
        """Return the rows of a stretch at a time, unless a prepared deal may still change them."""
        if not self.has(stretch):
            return self.away()
        rivals = [
            other for other, claim in self.claims.items()
            if other != deal and claim.start < time and len(claim.changes_in(stretch)) > 0
        ]
        if len(rivals) > 0:
            return self.busy_with(rivals)
        keys = [key for key in sorted(self.past) if stretch[0] <= key < stretch[1]]
        rows = [(key, self.value(key, time)) for key in keys]
        return "rows", tuple([row for row in rows if row[1] is not None])

    def prepare(self, deal, claim):
        """Prepare a deal, unless something is in its way."""
        if deal in self.decided:
            return "decided", self.decided[deal]
        if deal in self.claims:
            return ("prepared",)
        needed = list(claim.spans) + [(change[0], change[0] + 1) for change in claim.changes]
        if not all([self.has(stretch) for stretch in needed]):
            return self.away()
        rivals = [other for other, held in self.claims.items() if held.conflicts(claim)]
        if len(rivals) > 0:
            return self.busy_with(rivals)
        if self.is_stale(claim):
            return ("stale",)
        self.claims[deal] = claim
        return ("prepared",)

    def is_stale(self, claim):
        """Tell whether a key that a deal reads has a version of a time behind the deal's start."""
        for key, pairs in self.past.items():
            if pairs[-1][0] > claim.start and any([low <= key < high for low, high in claim.spans]):
                return True
        return False

    def decide(self, deal, time):
        """Commit a prepared deal at a time."""
        if deal in self.decided:
            return "decided", self.decided[deal]
        if deal not in self.claims:
            return ("missing",)
        for key, value in self.claims[deal].changes:
            self.past[key] = with_version(self.past.get(key, ()), time, value)
        del self.claims[deal]
        self.decided[deal] = time
        return "decided", time

    def drop(self, deal):
        """Drop a deal, whether or not it was prepared."""
        if deal in self.decided:
            return "decided", self.decided[deal]
        self.claims.pop(deal, None)
        self.decided[deal] = 0
        return "decided", 0

    def finish(self, deal, time):
        """Do what was decided at the lead: commit a deal at a time, or drop it if the time is 0."""
        if time == 0:
            return self.drop(deal)
        return self.decide(deal, time)

    def divide(self, key, group):
        """Split the table: the keys from the key on go to a new table (point 15)."""
        if not self.low < key < self.high:
            return self.away()
        upper = self.claims_within((key, self.high))
        part = Table(key, self.high)
        part.past = {k: self.past[k] for k in self.past if k >= key}
        part.claims = {deal: upper[deal] for deal in upper if not upper[deal].is_empty()}
        part.decided = {deal: self.decided[deal] for deal in self.decided}
        self.part = part
        self.past = {k: self.past[k] for k in self.past if k < key}
        self.claims = self.claims_within((self.low, key))
        self.signs.append((key, self.high, group))
        self.high = key
        return "split", key, group

    def claims_within(self, stretch):
        """Return, for each prepared deal, the claim that a table of this stretch keeps of its own."""
        return {deal: self.claims[deal].within(stretch) for deal in self.claims}


def table_of(picture):
    """Return the table of a picture (point 17)."""
    _, low, high, versions, prepared, decisions, signs = picture
    table = Table(low, high)
    table.signs = list(signs)
    table.past = {key: pairs for key, pairs in versions}
    table.claims = {deal: Claim(start, spans, changes, lead) for deal, start, spans, changes, lead in prepared}
    table.decided = {deal: time for deal, time in decisions}
    return table
