"""Attempts of deals: their steps, one after the other (points 30 and 31)."""

from wholecloth.meaning import changes, execute, spans
from wholecloth.places import group_of, parts_of

START = "start"
READ = "read"
PREPARE = "prepare"
TIME = "time"
DECIDE = "decide"
DROP = "drop"
FINISH = "finish"
ASK_TIME = (0, ("next",))


class Attempt:
    """An attempt of a deal. Its methods return the calls that a new step makes: pairs of a group and a command."""

    def __init__(self, deal, ops):
        self.deal = deal
        self.ops = ops
        self.step = START
        # How many answers the step still needs.
        self.needed = 1
        self.start = None
        self.parts = []
        self.rows = {}
        self.results = []
        # The groups of step 4, and the one that decides.
        self.groups = []
        self.lead = None
        # What the client is to be told, the outcome, the results and the time, until the clerk takes it.
        self.verdict = None
        self.ended = False
        self.over = False

    def begin(self):
        """Begin with step 1."""
        return [ASK_TIME]

    def take(self, answer, places):
        """Go on with the answer to a call of this step."""
        self.needed -= 1
        if self.step == START:
            self.start = answer[1]
            return self.read(places)
        if self.step == READ:
            return self.take_rows(answer, places)
        if self.step == PREPARE:
            return self.take_prepared(answer)
        if self.step == TIME:
            return self.enter(DECIDE, [(self.lead, ("decide", self.deal, answer[1]))])
        if self.step == FINISH:
            self.over = self.needed == 0
            return []
        return self.take_decision(answer)

    def enter(self, step, calls):
        """Enter a step that makes these calls."""
        self.step = step
        self.needed = len(calls)
        return calls

    def read(self, places):
        """Begin with step 2."""
        self.rows = {}
        self.parts = parts_of(places, spans(self.ops))
        if len(self.parts) == 0:
            return self.run(places)
        return self.enter(READ, [
            (group, ("read", self.deal, self.start, low, high)) for low, high, group in self.parts
        ])

    def take_rows(self, answer, places):
        """Go on with an answer of step 2; the places know already what an answer away has said."""
        if answer[0] == "away":
            return self.read(places)
        for key, value in answer[1]:
            self.rows[key] = value
        if self.needed > 0:
            return []
        return self.run(places)

    def run(self, places):
        """Execute the deal on what was read (steps 2 and 3)."""
        outcome, self.results, _ = execute(self.rows, self.ops)
        made = changes(self.rows, self.ops)
        if len(made) == 0:
            self.tell(outcome, self.start)
            self.over = True
            return []
        return self.prepare(places, made)

    def tell(self, outcome, time):
        """Let the client be told; the deal needs no further attempt then."""
        self.verdict = (outcome, self.results, time)
        self.ended = True

    def prepare(self, places, made):
        """Begin with step 4."""
        owners = {key: group_of(places, key) for key, _ in made}
        self.lead = owners[made[0][0]]
        self.groups = sorted(set([group for _, _, group in self.parts] + list(owners.values())))
        calls = []
        for group in self.groups:
            read = tuple([(low, high) for low, high, owner in self.parts if owner == group])
            changed = tuple([change for change in made if owners[change[0]] == group])
            calls.append((group, ("prepare", self.deal, self.start, read, changed, self.lead)))
        return self.enter(PREPARE, calls)

    def take_prepared(self, answer):
        """Go on with an answer of step 4."""
        if answer[0] != "prepared":
            return self.turn_back()
        if self.needed > 0:
            return []
        return self.enter(TIME, [ASK_TIME])

    def turn_back(self):
        """Ask the lead to drop this attempt (point 31)."""
        return self.enter(DROP, [(self.lead, ("drop", self.deal))])

    def take_decision(self, answer):
        """Go on with what the lead says in step 6, or when the attempt is turned back."""
        time = answer[1] if answer[0] == "decided" else 0
        if time == 0 and self.step == DECIDE:
            return self.turn_back()
        if time != 0:
            self.tell("done", time)
        return self.finish(time)

    def finish(self, time):
        """Begin with step 7, or drop the attempt in the same groups."""
        others = [group for group in self.groups if group != self.lead]
        self.over = len(others) == 0
        return self.enter(FINISH, [(group, ("finish", self.deal, time)) for group in others])
