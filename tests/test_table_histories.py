"""Points 13, 14, 15 and 17: many commands in any order, beside a second, plainer reading of these points."""

import unittest

from helpers import numbers
from wholecloth.table import Table, table_of

KEYS = 14


class Model:
    """A table over sets of keys, with its versions as one dictionary from (key, time) to values."""

    def __init__(self, low, high):
        self.low, self.high, self.signs, self.part = low, high, (), None
        self.versions, self.held, self.decided = {}, {}, {}

    def keys(self):
        return set(range(self.low, self.high))

    def least(self, deals):
        first = sorted(deals, key=lambda deal: (self.held[deal][0], deal))[0]
        return ("busy", first, self.held[first][3])

    def value(self, key, time):
        times = [moment for k, moment in self.versions if k == key and moment <= time]
        return self.versions[key, max(times)] if times else None

    def run(self, command):
        lengths = {"read": 5, "prepare": 6, "decide": 3, "drop": 2, "finish": 3, "split": 3, "none": 1}
        word = command[0]
        if word not in lengths or len(command) != lengths[word]:
            return ("unknown",)
        if word == "none":
            return ("none",)
        if word in ("prepare", "decide", "drop", "finish") and command[1] in self.decided:
            return ("decided", self.decided[command[1]])
        return getattr(self, word)(*command[1:])

    def read(self, deal, time, low, high):
        wanted = set(range(low, high))
        if not wanted or not wanted <= self.keys():
            return ("away", self.signs)
        rivals = [other for other, (start, _, writes, _) in self.held.items()
                  if other != deal and start < time and wanted & set(dict(writes))]
        if rivals:
            return self.least(rivals)
        found = [(key, self.value(key, time)) for key in sorted(wanted)]
        return ("rows", tuple((key, value) for key, value in found if value is not None))

    def prepare(self, deal, start, spans, changes, lead):
        if deal in self.held:
            return ("prepared",)
        reads = {key for low, high in spans for key in range(low, high)}
        writes = set(dict(changes))
        if not reads | writes <= self.keys():
            return ("away", self.signs)
        rivals = []
        for other, (_, other_spans, other_changes, _) in self.held.items():
            other_reads = {key for low, high in other_spans for key in range(low, high)}
            other_writes = set(dict(other_changes))
            if writes & other_writes or writes & other_reads or reads & other_writes:
                rivals.append(other)
        if rivals:
            return self.least(rivals)
        if any(key in reads and time > start for key, time in self.versions):
            return ("stale",)
        self.held[deal] = (start, spans, changes, lead)
        return ("prepared",)

    def decide(self, deal, time):
        if deal not in self.held:
            return ("missing",)
        for key, value in self.held.pop(deal)[2]:
            self.versions[key, time] = value
        self.decided[deal] = time
        return ("decided", time)

    def drop(self, deal):
        self.held.pop(deal, None)
        self.decided[deal] = 0
        return ("decided", 0)

    def finish(self, deal, time):
        return self.drop(deal) if time == 0 else self.decide(deal, time)

    def split(self, key, group):
        if key - 1 not in self.keys() or key not in self.keys():
            return ("away", self.signs)
        self.part = Model(key, self.high)
        self.part.decided = dict(self.decided)
        self.signs += ((key, self.high, group),)
        self.high = key
        for deal, claim in list(self.held.items()):
            for half in (self, self.part):
                start, spans, changes, lead = claim
                spans = [sorted(set(range(low, high)) & half.keys()) for low, high in spans]
                spans = tuple((keys[0], keys[-1] + 1) for keys in spans if keys)
                changes = tuple(change for change in changes if change[0] in half.keys())
                if spans or changes or half is self:
                    half.held[deal] = (start, spans, changes, lead)
        for half in (self.part, self):
            half.versions = {pair: self.versions[pair] for pair in self.versions if pair[0] in half.keys()}
        return ("split", key, group)

    def picture(self):
        versions = {}
        for key, time in sorted(self.versions):
            versions.setdefault(key, []).append((time, self.versions[key, time]))
        return (
            "table", self.low, self.high, tuple((key, tuple(pairs)) for key, pairs in versions.items()),
            tuple((deal, *self.held[deal]) for deal in sorted(self.held)), tuple(sorted(self.decided.items())),
            self.signs,
        )


def some_span(source):
    low = next(source) % KEYS
    return (low, low + 1 + next(source) % 3)


def some_changes(source):
    keys = sorted({next(source) % (KEYS + 1) for _ in range(next(source) % 4)})
    return tuple((key, [None, 0, 1, -5][next(source) % 4]) for key in keys)


def some_command(source):
    word = ("read", "prepare", "prepare", "prepare", "decide", "drop", "finish", "finish", "odd")[next(source) % 9]
    deal = (next(source) % 3, next(source) % 3, next(source) % 2)
    time = next(source) % 7
    if word == "read":
        low = next(source) % KEYS
        return (word, deal, time, low, low + next(source) % 6)
    if word == "prepare":
        spans = tuple(some_span(source) for _ in range(next(source) % 3))
        return (word, deal, time, spans, some_changes(source), 1 + next(source) % 3)
    if word == "drop":
        return (word, deal)
    if word in ("decide", "finish"):
        return (word, deal, time)
    if next(source) % 3:
        return ("split", next(source) % (KEYS + 2), 2 + next(source) % 5)
    return (("none",), ("drop",), ("none", 1), ("next",), ("read", deal, time, 0))[next(source) % 5]


class Histories(unittest.TestCase):
    def test_many_of_them(self):
        source = numbers(14)
        answers = set()
        for _ in range(1500):
            pairs = [(Table(0, KEYS), Model(0, KEYS))]
            for _ in range(1 + next(source) % 40):
                table, model = pairs[next(source) % len(pairs)]
                command = some_command(source)
                part = table.part
                answer = table.run(command)
                self.assertEqual(answer, model.run(command), command)
                self.assertEqual(table.picture(), model.picture(), command)
                answers.add((command[0], answer[0]))
                if answer[0] == "split":
                    pairs.append((table.part, model.part))
                    self.assertEqual(table.part.picture(), model.part.picture())
                    self.assertEqual(table.part.signs, [])
                else:
                    self.assertIs(table.part, part)
                if next(source) % 8 == 0:
                    at = next(source) % len(pairs)
                    pairs[at] = (table_of(pairs[at][0].picture()), pairs[at][1])
            for table, model in pairs:
                self.assert_equal_views(table, model)
        self.assertEqual(len(answers), 20, answers)

    def assert_equal_views(self, table, model):
        self.assertEqual((table.low, table.high, tuple(table.signs)), (model.low, model.high, model.signs))
        self.assertEqual(table.prepared(), sorted(model.held))
        for key in range(-1, KEYS + 1):
            expected = [(time, model.versions[k, time]) for k, time in sorted(model.versions) if k == key]
            self.assertEqual(table.versions(key), expected)
            for time in range(8):
                self.assertEqual(table.value(key, time), model.value(key, time))
        for client in range(3):
            for n in range(3):
                self.assertEqual(table.decision((client, n, 0)), model.decided.get((client, n, 0)))


if __name__ == "__main__":
    unittest.main()
