"""Clerks: they execute the deals of a client, one after the other (points 29 to 32)."""

from wholecloth.attempt import Attempt


class Call:
    """A call that is open, or waits for another deal."""

    def __init__(self, group, command, blocked):
        self.group = group
        self.command = command
        # The call that waits until this one has been answered, or None.
        self.blocked = blocked
        # The machine of the last answer lost since the call was last sent, or None.
        self.hint = None


class Route:
    """At which machine a clerk calls a group (point 32)."""

    def __init__(self):
        self.machine = 0
        self.turn = 0
        # Whether the machine was taken from an answer lost.
        self.taken = False

    def change(self, hint, machines):
        """Go to the machine that a lost has named, or to the next one in turn."""
        if hint is not None and not self.taken:
            self.machine = hint
            self.taken = True
        else:
            self.turn = (self.turn + 1) % machines
            self.machine = self.turn
            self.taken = False


class Clerk:
    """The clerk of a client, which calls `machines` machines."""

    def __init__(self, client, machines, deals):
        self.client = client
        self.machines = machines
        self.deals = [list(ops) for ops in deals]
        self.number = 0
        self.busy = False
        self.places = [(0, 1000, 1)]
        self.routes = {}
        # The last token, and the open calls by their tokens.
        self.token = 0
        self.calls = {}
        self.attempt = None
        # The number of the next attempt of the deal at work.
        self.tries = 0
        self.news = []

    def act(self):
        """Send all open calls, those of an attempt that begins included; return them."""
        self.change_routes()
        if self.attempt is None and (self.busy or self.number < len(self.deals)):
            self.begin()
        return self.sent(sorted(self.calls))

    def hear(self, letter):
        """Take an answer to a call; return the calls that follow from it."""
        word, token, content = letter
        if token not in self.calls:
            return []
        call = self.calls[token]
        if word == "lost":
            call.hint = content
            return []
        del self.calls[token]
        return self.sent(self.answered(call, content))

    def forget(self):
        """Give up the deal at work."""
        if self.busy:
            self.end_deal()

    def events(self):
        """Return what belongs into the history since the last call (point 37)."""
        news = self.news
        self.news = []
        return news

    def idle(self):
        """Tell whether no deal is at work or left, and no call is open."""
        return not self.busy and self.number >= len(self.deals) and len(self.calls) == 0

    def route(self, group):
        """Return the route of a group."""
        if group not in self.routes:
            self.routes[group] = Route()
        return self.routes[group]

    def change_routes(self):
        """Change the machine of each group with a call that is sent again; the lowest token decides."""
        hints = {}
        for token in sorted(self.calls):
            call = self.calls[token]
            if call.group not in hints:
                hints[call.group] = call.hint
        for group, hint in hints.items():
            self.route(group).change(hint, self.machines)

    def sent(self, tokens):
        """Return the calls with these tokens as they are sent now."""
        letters = []
        for token in tokens:
            call = self.calls[token]
            call.hint = None
            letters.append((self.route(call.group).machine, ("call", token, call.group, call.command)))
        return letters

    def make(self, group, command, blocked):
        """Make a call; return its token."""
        self.token += 1
        self.calls[self.token] = Call(group, command, blocked)
        return self.token

    def make_all(self, wanted):
        """Make the calls of a step; return their tokens."""
        return [self.make(group, command, None) for group, command in wanted]

    def begin(self):
        """Begin the next attempt of the deal at work, or of the next deal."""
        if not self.busy:
            self.busy = True
            self.tries = 0
            self.news.append(("asked", self.client, self.number))
        self.attempt = Attempt((self.client, self.number, self.tries), self.deals[self.number])
        self.tries += 1
        self.make_all(self.attempt.begin())

    def answered(self, call, answer):
        """Go on with an answer; return the tokens of the calls that are made."""
        if call.blocked is not None:
            return self.cleared(call, answer)
        if call.command[0] in ("read", "prepare"):
            if answer[0] == "busy":
                _, other, lead = answer
                return [self.make(lead, ("drop", other), call)]
            if answer[0] == "away":
                self.learn(answer[1])
        return self.advance(answer)

    def cleared(self, call, answer):
        """Go on with the deal that is in the way of a call (point 31)."""
        blocked = call.blocked
        if call.command[0] == "drop":
            return [self.make(blocked.group, ("finish", call.command[1], answer[1]), blocked)]
        return [self.make(blocked.group, blocked.command, None)]

    def learn(self, signs):
        """Append the signs that are new to the places."""
        for sign in signs:
            if sign not in self.places:
                self.places.append(sign)

    def advance(self, answer):
        """Give the attempt an answer; return the tokens of the calls of a step that begins."""
        attempt = self.attempt
        wanted = attempt.take(answer, self.places)
        if attempt.verdict is not None:
            outcome, results, time = attempt.verdict
            attempt.verdict = None
            self.news.append(("told", self.client, self.number, outcome, results, time))
        if len(wanted) > 0:
            # A step that begins needs no answer of another one; calls that are left, waiting ones too, are given up.
            self.calls = {}
        if attempt.over:
            self.attempt = None
            if attempt.ended:
                self.end_deal()
        return self.make_all(wanted)

    def end_deal(self):
        """Go on to the next deal; what is open is given up."""
        self.attempt = None
        self.calls = {}
        self.busy = False
        self.number += 1
