"""Points 39 to 41: ledgers, their tables, the story and the view."""

import unittest

from test_world import WorldTest, choice, deed
from wholecloth.counter import Counter
from wholecloth.table import Table
from wholecloth.world import World

NONE = ("none",)
D, E = (0, 0, 0), (1, 0, 0)


class Ledgers(WorldTest):
    def test_they_begin_at_index_1(self):
        world = self.elected(3, 3)
        self.assertEqual(world.ledgers, {0: [NONE], 1: [NONE]})
        self.assertEqual([replica.applied for replica in world.machines[0].replicas.values()], [1, 1])

    def test_commands_are_appended_once(self):
        world = self.elected(3, 3, [[[("put", 5, 7)]]])
        for _ in range(3):
            self.choose(world, choice(13), choice(10, 0), choice(10, 3))
            self.empty(world)
        self.assertEqual(world.ledgers, {
            0: [NONE, ("next",), ("next",)],
            1: [NONE, ("prepare", D, 1, (), ((5, 7),), 1), ("decide", D, 2)]})
        self.assertEqual((world.tables[0].last, world.tables[1].versions(5)), (2, [(2, 7)]))
        self.assertIsInstance(world.tables[0], Counter)
        self.assertIsInstance(world.tables[1], Table)

    def test_commands_of_members_stand_as_they_are(self):
        world = self.elected(3, 3)
        world.choose(deed(2, next(b for b in range(343) if b % 2 == 1 and b // 7 % 3 == 2)))
        self.empty(world)
        self.assertEqual(world.ledgers[1], [NONE, ("members", (0, 1))])
        self.assertEqual(world.tables[1].picture(), Table(0, 1000).picture())

    def test_entries_below_a_base_are_there_too(self):
        world = self.elected(3, 3)
        self.choose(world, deed(3, 0), choice(8, 0), deed(0, 0), choice(12, 0))
        self.assertEqual(world.wiped, [0])
        self.assertEqual(world.ledgers[0], [NONE])
        self.assertTrue(world.settle())

    def test_a_replica_that_begins_with_a_base(self):
        world = self.elected(3, 2, [[[("put", 5, 7)]]])
        self.choose(world, choice(13))
        self.empty(world)
        self.choose(world, deed(3, 0), deed(3, 3), choice(8, 0))
        world.choose(deed(2, next(b for b in range(343) if b % 2 == 1 and b // 7 % 3 == 2)))
        self.empty(world)
        self.assertEqual(world.machines[2].replicas[1].base[0], 3)
        self.assertEqual(world.ledgers[1][:2], [NONE, ("prepare", D, 1, (), ((5, 7),), 1)])
        self.assertEqual(len(world.ledgers[1]), 4)

    def test_applied_by_others_later(self):
        world = World(1, 1, [[[("put", 5, 7)]], [[("get", 5)]]])
        self.assertTrue(world.settle())
        ledgers = {group: list(ledger) for group, ledger in world.ledgers.items()}
        self.choose(world, choice(8, 0), choice(11, 0), choice(12, 0), choice(10, 0), choice(10, 1))
        self.empty(world)
        self.assertEqual(world.ledgers, {group: ledger + [NONE] for group, ledger in ledgers.items()})
        self.assertEqual((world.story(), world.view()), ([(2, 0, 0), (3, 1, 0)], {5: 7}))

    def test_split_groups(self):
        world = self.elected(1, 1, [[[("put", 700, 7), ("put", 100, 1)]], [[("scan", 0, 1000), ("put", 701, 8)]]])
        self.choose(world, choice(13, 0))
        self.empty(world)
        self.choose(world, deed(1, 7 * 500))
        self.empty(world)
        self.assertEqual((sorted(world.ledgers), world.ledgers[2]), ([0, 1, 2], []))
        self.assertEqual(world.tables[2].versions(700), [(2, 7)])
        self.choose(world, choice(10, 2))
        self.empty(world)
        self.assertTrue(world.settle())
        self.assertEqual(world.ledgers[2][:2], [NONE, ("read", E, 3, 500, 1000)])
        self.assertEqual(world.view(), {100: 1, 700: 7, 701: 8})
        self.assertEqual(world.story(), [(2, 0, 0), (4, 1, 0)])
        self.assertEqual(world.history[-1], ("told", 1, 0, "done", [[(100, 1), (700, 7)], None], 4))

    def test_a_split_that_did_nothing_makes_no_group(self):
        world = self.elected(1, 1)
        self.choose(world, deed(1, 0))
        self.empty(world)
        self.assertEqual((world.groups, sorted(world.ledgers), sorted(world.tables)), (3, [0, 1], [0, 1]))
        self.assertEqual(world.ledgers[1], [NONE, ("split", 0, 2)])


class Stories(WorldTest):
    def split_world(self, *deals):
        """One machine that leads groups 1 (below 500) and 2."""
        world = self.elected(1, 1, deals)
        self.choose(world, deed(1, 7 * 500))
        self.empty(world)
        self.choose(world, choice(10, 2))
        self.empty(world)
        for clerk in world.clerks:
            clerk.places.append((500, 1000, 2))
        return world

    def until(self, world, command):
        """Let client 0 act until this command is in a ledger; what is on its way then is lost."""
        world.choose(choice(13, 0))
        for _ in range(60):
            world.choose(choice(8, 0))
            if any(each[0] == command for ledger in world.ledgers.values() for each in ledger):
                world.net.clear()
                return
            world.choose(0)
        self.fail("it did not come")

    def test_deals_without_changes(self):
        world = World(1, 1, [[[("get", 5)], [("need", 5, 1)], [("put", 5, 1), ("need", 5, 2)], [("scan", 4, 4)]]])
        self.assertTrue(world.settle())
        self.assertEqual(world.story(), [(1, 0, 0), (2, 0, 1), (3, 0, 2), (4, 0, 3)])
        self.assertEqual((world.view(), world.ledgers[1][1:]),
                         ({}, [("read", (0, 0, 0), 1, 5, 6), ("read", (0, 1, 0), 2, 5, 6), ("read", (0, 2, 0), 3, 5, 6)]))

    def test_a_deal_that_read_but_was_not_told_is_not_in_it(self):
        world = self.split_world([[("get", 5)]])
        self.until(world, "read")
        self.assertEqual((world.story(), world.history), ([], [("asked", 0, 0)]))

    def test_a_prepared_deal_is_not_in_it(self):
        world = self.split_world([[("put", 5, 1), ("put", 600, 2)]])
        self.until(world, "prepare")
        self.assertEqual((world.story(), world.view()), ([], {}))
        self.assertEqual(world.tables[1].prepared(), [D])

    def test_a_deal_that_was_decided_but_not_told(self):
        world = self.split_world([[("put", 5, 1), ("put", 600, 2), ("add", 601, 3)]])
        self.until(world, "decide")
        self.assertEqual((world.tables[1].prepared(), world.tables[2].prepared()), ([], [D]))
        self.assertEqual(world.history, [("asked", 0, 0)])
        self.assertEqual(world.story(), [(2, 0, 0)])
        self.assertEqual(world.view(), {5: 1, 600: 2, 601: 3})
        world.clerks[0].forget()
        self.assertTrue(world.settle())
        self.assertEqual((world.story(), world.view()), ([(2, 0, 0)], {5: 1, 600: 2, 601: 3}))

    def test_changes_that_remove_a_key(self):
        world = self.split_world([[("put", 5, 1), ("put", 600, 2)], [("put", 5, None), ("put", 600, None)]])
        while world.clerks[0].number == 0:
            self.choose(world, choice(13, 0))
            self.empty(world)
        self.assertEqual(world.view(), {5: 1, 600: 2})
        self.choose(world, choice(13, 0))
        while not any(letter[-1][0] == "finish" for _, _, letter in world.net if letter[0] == "call"):
            self.choose(world, choice(8, 0), 0)
        self.assertEqual((world.tables[2].prepared(), world.tables[2].versions(600)), ([(0, 1, 0)], [(2, 2)]))
        self.assertEqual((world.view(), world.story()), ({}, [(2, 0, 0), (4, 0, 1)]))

    def test_one_that_was_dropped_is_not_in_it(self):
        world = self.split_world([[("put", 5, 1), ("put", 600, 2)]], [[("get", 5)]])
        self.until(world, "prepare")
        self.choose(world, choice(14, 0))
        self.assertTrue(world.settle())
        self.assertEqual([triple[1:] for triple in world.story()], [(1, 0)])
        self.assertEqual((world.view(), world.tables[1].decision(D)), ({}, 0))

    def test_each_deal_stands_in_it_once(self):
        world = self.split_world([[("put", 5, 1), ("put", 600, 2)], [("get", 5)]])
        self.assertTrue(world.settle())
        self.assertEqual(world.tables[1].decision(D), world.tables[2].decision(D))
        self.assertEqual(world.story(), [(2, 0, 0), (3, 0, 1)])

    def test_deals_with_changes_stand_in_it_by_their_decisions_alone(self):
        world = World(1, 1, [[[("put", 5, 1)], [("add", 5, 0)], [("put", 5, 1), ("need", 5, 2)], [("get", 5)]]])
        for n, outcome in enumerate(("done", "done", "failed", "done")):
            world.history.append(("told", 0, n, outcome, [], 9 - n))
        self.assertEqual(world.story(), [(6, 0, 3), (7, 0, 2)])

    def test_the_order_is_that_of_the_times(self):
        world = World(3, 3, [[[("add", 5, 1)]] * 3, [[("add", 5, 1), ("get", 5)]] * 3])
        for n in range(2000):
            world.choose((0, 8, 24, 40, 13, 0, 29, 0, 10, 58)[n % 10] if n % 97 else 10)
        self.assertTrue(world.settle())
        story = world.story()
        self.assertEqual(len(story), 6)
        self.assertEqual(story, sorted(story))
        self.assertEqual(world.view(), {5: 6})


if __name__ == "__main__":
    unittest.main()
