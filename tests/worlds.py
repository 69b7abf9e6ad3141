"""Worlds that are drawn, and what must hold of them (points 2 and 41)."""

from helpers import numbers
from stories import a_deal, check_story, story_of, view_of
from wholecloth.world import World

KEYS = (0, 5, 499, 500, 501, 999)


class Watched(World):
    """A world that remembers what each replica has applied."""

    def __init__(self, machines, members, deals):
        self.seen = {}
        self.conflict = None
        World.__init__(self, machines, members, deals)

    def collect(self, at):
        machine = self.machines[at]
        for group, index, command in machine.done:
            if self.seen.setdefault((group, index), command) != command:
                self.conflict = (group, index)
        World.collect(self, at)


class Drawn:
    """A world and a list of choices, drawn by a seed."""

    def __init__(self, seed, machines, members, clients, many, most=3):
        self.source = numbers(seed)
        self.deals = [[a_deal(self.pick, KEYS) for _ in range(1 + self.pick(most))] for _ in range(clients)]
        self.world = Watched(machines, members, self.deals)
        self.machines = machines
        self.favourite = self.pick(members)
        self.choices = []
        while len(self.choices) < many:
            self.choices.extend(self.a_burst() if self.pick(5) < 2 else [self.a_choice()])

    def pick(self, many):
        return next(self.source) % many

    def a_burst(self):
        """Choices by which something is achieved: a favourite stands or nudges, all sync, letters are delivered."""
        burst = []
        if self.pick(3) > 0:
            at = self.favourite if self.pick(6) else self.pick(self.machines)
            burst.append(10 + 16 * (at + self.machines * self.pick(60)))
        if self.pick(2):
            burst.append(13 + 16 * self.pick(4))
        for _ in range(1 + self.pick(3)):
            burst.extend([8 + 16 * at for at in range(self.machines)] + [0] * self.pick(9))
        if self.pick(3) == 0:
            # Some deeds are possible only while no disk has a write in its cache.
            burst.extend([8 + 16 * at for at in range(self.machines)] + [15 + 16 * self.a_deed()])
        return burst

    def a_choice(self):
        """A choice; those that make trouble are rarer than those by which deals come to an end."""
        kind = self.pick(6)
        number = self.pick(40) if self.pick(3) == 0 else 0
        draw = self.pick(100)
        if draw >= 50:
            number = self.pick(5 ** 9 * 3 ** 12)
        if 50 <= draw < 78:
            kind = 8 + draw % 2
        elif 78 <= draw < 88:
            kind = 13
        elif 88 <= draw < 90:
            kind = 14
            number = number if self.pick(2) == 0 else 4 + self.pick(12)
        elif draw >= 90:
            kind = (6, 7, 10, 10, 10, 11, 12, 12, 15, 15)[draw - 90]
            if kind == 15:
                number = self.a_deed()
        return kind + 16 * number

    def a_deed(self):
        deed = (0, 1, 2, 2, 2, 2, 2, 3, 3, 3, 4)[self.pick(11)]
        number = self.pick(10 ** 8)
        if deed == 1:
            key = KEYS[self.pick(len(KEYS))]
            number = self.pick(7) + 7 * (key + 1000 * self.pick(5))
        return deed + 5 * number


def check_world(case, world, deals):
    """Hold a world against the statements of point 41, but for the last one."""
    case.assertIsNone(world.conflict)
    tables = {group: table for group, table in world.tables.items() if group != 0}
    story, view = world.story(), world.view()
    case.assertEqual(story, sorted(set(story_of(tables, deals, world.history))))
    case.assertEqual(view, view_of(tables))
    check_story(case, deals, world.history, story, view)
    stretches = sorted((table.low, table.high) for table in tables.values())
    case.assertEqual(stretches[0][0], 0)
    case.assertEqual(stretches[-1][1], 1000)
    for one, other in zip(stretches, stretches[1:]):
        case.assertEqual(one[1], other[0])
    case.assertLessEqual(len(world.net), 400)
    for group, ledger in world.ledgers.items():
        case.assertEqual(ledger, [world.seen[group, index + 1] for index in range(len(ledger))])
    case.assertEqual(len(world.seen), sum(len(ledger) for ledger in world.ledgers.values()))


def check_settled(case, world, deals):
    """Settle a world: all deals have been told or forgotten."""
    case.assertIs(world.settle(), True)
    for clerk, ops in zip(world.clerks, deals):
        case.assertEqual((clerk.number, clerk.busy, clerk.idle()), (len(ops), False, True))
    check_world(case, world, deals)
