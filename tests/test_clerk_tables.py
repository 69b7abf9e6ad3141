"""Points 29 to 32 and 37: clerks over a counter and tables, whose told answers are those of one order of the deals."""

import copy
import unittest

from helpers import numbers
from stories import a_deal, check_story, story_of, view_of
from wholecloth.clerk import Clerk
from wholecloth.counter import Counter
from wholecloth.table import Table

KEYS = (0, 3, 499, 500, 501, 999)


class Run:
    """Clerks whose calls and answers are lost, copied, and delivered in any order; no machines."""

    def __init__(self, seed):
        self.source = numbers(seed)
        self.counter = Counter()
        self.tables = {1: Table(0, 1000)}
        self.deals = [[a_deal(self.pick, KEYS) for _ in range(1 + self.pick(4))] for _ in range(1 + self.pick(4))]
        self.clerks = [Clerk(client, 3, ops) for client, ops in enumerate(self.deals)]
        self.net = []
        self.history = []
        self.seen = {}

    def pick(self, many):
        return next(self.source) % many

    def send(self, client, calls):
        self.net.extend((client, letter) for _, letter in calls)

    def act(self, client):
        self.send(client, self.clerks[client].act())
        self.history.extend(self.clerks[client].events())

    def deliver(self, place):
        client, letter = self.net.pop(place)
        if letter[0] == "call":
            _, token, group, command = letter
            answer = (self.counter if group == 0 else self.tables[group]).run(command)
            self.seen[command[0], answer[0]] = self.seen.get((command[0], answer[0]), 0) + 1
            self.net.append((client, ("told", token, answer)))
        else:
            self.send(client, self.clerks[client].hear(letter))
            self.history.extend(self.clerks[client].events())

    def split(self):
        group = 1 + self.pick(len(self.tables))
        key = KEYS[self.pick(len(KEYS))]
        if self.tables[group].run(("split", key, len(self.tables) + 1))[0] == "split":
            self.tables[len(self.tables) + 1] = self.tables[group].part

    def step(self):
        kind = self.pick(20)
        client = self.pick(len(self.clerks))
        if kind < 12 and self.net:
            self.deliver(self.pick(len(self.net)))
        elif kind == 12 and self.net:
            self.net.pop(self.pick(len(self.net)))
        elif kind == 13 and self.net:
            self.net.append(self.net[self.pick(len(self.net))])
        elif kind == 14 and self.pick(3) == 0 and len(self.tables) < 5:
            self.split()
        elif kind == 15 and self.pick(20) == 0:
            self.clerks[client].forget()
        elif kind == 16 and self.net:
            client, letter = self.net[self.pick(len(self.net))]
            if letter[0] == "call":
                self.net.append((client, ("lost", letter[1], (None, 0, 1, 2)[self.pick(4)])))
        elif kind > 16:
            self.act(client)

    def settle(self):
        """Nothing is lost any longer; True if all clerks become idle."""
        for _ in range(2000):
            while self.net:
                self.deliver(0)
            working = [client for client, clerk in enumerate(self.clerks) if not clerk.idle()]
            if not working:
                return True
            self.act(working[0])
        return False


class Runs(unittest.TestCase):
    def test_told_answers_are_those_of_one_order(self):
        seen = {}
        told = forgotten = 0
        for seed in range(1000):
            run = Run(seed)
            before = copy.deepcopy(run.deals)
            for _ in range(40 + run.pick(250)):
                run.step()
                if run.pick(50) == 0:
                    self.check(run)
            self.check(run)
            self.assertTrue(run.settle(), seed)
            self.check(run)
            self.assertEqual(run.deals, before)
            for clerk, deals in zip(run.clerks, run.deals):
                self.assertEqual((clerk.number, clerk.busy), (len(deals), False))
            done = sum(event[0] == "told" for event in run.history)
            told += done
            forgotten += sum(len(deals) for deals in run.deals) - done
            for pair, many in run.seen.items():
                seen[pair] = seen.get(pair, 0) + many
        self.assertGreater(told, 1500)
        self.assertGreater(forgotten, 30)
        for pair in (("read", "busy"), ("read", "away"), ("prepare", "busy"), ("prepare", "away"),
                     ("prepare", "stale"), ("prepare", "decided"), ("decide", "decided"), ("drop", "decided"),
                     ("finish", "decided")):
            self.assertGreater(seen.get(pair, 0), 20, pair)

    def check(self, run):
        story = story_of(run.tables, run.deals, run.history)
        check_story(self, run.deals, run.history, story, view_of(run.tables))
        for time, _, _ in story:
            self.assertLessEqual(time, run.counter.last)


if __name__ == "__main__":
    unittest.main()
