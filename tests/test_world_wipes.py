"""Point 36: configurations, holders, and which machines may be wiped."""

import copy

from helpers import table_base
from test_world import WorldTest, at, choice, deed
from wholecloth.world import World

NONE = ("none",)


def may(world):
    return [world.may_wipe(machine) for machine in range(len(world.machines))]


class Wipes(WorldTest):
    def assert_may(self, world, *expected):
        """Who may be wiped; asking changes nothing, and the deed does just that."""
        before = self.snapshot(world)
        self.assertEqual(may(world), list(expected))
        self.assertEqual(self.snapshot(world), before)
        for machine, allowed in enumerate(expected):
            other = copy.deepcopy(world)
            other.choose(deed(0, machine + len(expected) * 3))
            if allowed:
                self.assertEqual(other.wiped, before[7] + [world.identities[machine]])
            else:
                self.assertEqual(self.snapshot(other), before)

    def test_a_new_world(self):
        self.assert_may(World(1, 1, []), False)
        self.assert_may(World(2, 1, []), False, True)
        self.assert_may(World(2, 2, []), False, False)
        self.assert_may(World(3, 3, []), True, True, True)
        self.assert_may(World(4, 4, []), True, True, True, True)
        self.assert_may(World(5, 3, []), True, True, True, True, True)

    def test_a_wipe(self):
        world = self.elected(3, 3)
        self.choose(world, deed(0, 1))
        self.assertEqual((world.wiped, world.identities), ([1], [0, 101, 2]))
        self.assertEqual((world.machines[1], world.disks[1].size), (None, 0))
        self.choose(world, choice(12, 1))
        self.assertEqual((world.machines[1].identity, world.machines[1].replicas), (101, {}))
        self.assertEqual(world.disks[1].size, 0)
        self.choose(world, deed(0, 1))
        self.assertEqual((world.wiped, world.identities), ([1, 101], [0, 201, 2]))

    def test_two_of_three_have_to_stay(self):
        world = World(3, 3, [])
        self.choose(world, deed(0, 1))
        self.assert_may(world, False, True, False)

    def test_three_of_five_have_to_stay(self):
        world = World(5, 5, [])
        self.choose(world, deed(0, 0), deed(0, 4))
        self.assertEqual(world.wiped, [0, 4])
        self.assert_may(world, True, False, False, False, True)

    def test_no_disk_may_write(self):
        world = World(3, 3, [])
        self.choose(world, choice(10, 1))
        self.assert_may(world, False, False, False)
        self.choose(world, choice(8, 1))
        self.assert_may(world, True, True, True)

    def test_stopped_machines_are_as_if_they_started(self):
        world = World(3, 3, [])
        self.choose(world, choice(11, 0), choice(11, 1))
        self.assert_may(world, True, True, True)
        self.choose(world, deed(0, 0))
        self.assertEqual((world.wiped, world.machines[:2]), ([0], [None, None]))
        self.assert_may(world, True, False, False)

    def test_the_members_entries_count(self):
        world = self.elected(3, 3)
        world.choose(deed(2, next(b for b in range(343) if b % 2 == 1 and b // 7 % 3 == 2)))
        self.assert_may(world, False, False, False)
        self.empty(world)
        self.assertEqual(world.machines[0].replicas[1].members, (0, 1))
        self.assert_may(world, False, False, True)
        self.choose(world, deed(0, 2))
        self.assertEqual(world.wiped, [2])

    def test_members_entries_that_are_not_committed_count(self):
        world = self.elected(3, 3)
        world.choose(deed(2, next(b for b in range(343) if b % 2 == 1 and b // 7 % 3 == 2)))
        self.choose(world, choice(8, 0))
        self.assertEqual(world.machines[0].replicas[1].committed, 1)
        self.assert_may(world, False, False, True)
        while world.net:
            self.choose(world, choice(6, 0))
        self.assert_may(world, False, False, True)

    def test_each_group_counts(self):
        world = self.elected(3, 3)
        self.choose(world, deed(1, 7 * 500))
        self.empty(world)
        self.assertEqual(sorted(world.machines[0].replicas), [0, 1, 2])
        self.assertEqual(sorted(world.machines[1].replicas), [0, 1])
        self.assert_may(world, False, False, False)
        self.choose(world, choice(10, 3))
        self.empty(world)
        self.assertEqual([sorted(machine.replicas) for machine in world.machines], [[0, 1, 2]] * 3)
        self.assert_may(world, True, True, True)

    def test_blank_replicas_hold_nothing(self):
        world = World(3, 2, [])
        world.machines[2].take(0, ("ask", 1, 1, 0, 0))
        self.choose(world, choice(8, 2))
        world.net.clear()
        self.assert_may(world, False, False, True)

    def test_letters_in_the_net_count(self):
        letters = {
            ("copy", 1, 1, 0, 0, ((1, NONE), (1, ("members", (0,)))), 0): (False, True, True),
            ("copy", 1, 1, 0, 0, ((1, ("members", (0, 1, 7))),), 0): (False, False, True),
            ("copy", 1, 1, 0, 0, ((1, ("members", (0, 7))),), 0): (False, False, False),
            ("base", 1, 1, table_base(1, index=4, term=1)): (True, False, True),
            ("base", 5, 1, table_base(7, index=4, term=1)): (True, True, True),
            ("copy", 5, 1, 0, 0, ((1, ("members", (7,))),), 0): (True, True, True),
            ("ask", 1, 1, 0, 0): (True, True, True),
            ("got", 1, 1, True, 0): (True, True, True),
            ("call", 1, 1, ("members", (7,))): (True, True, True),
            ("told", 1, ("members", (7,))): (True, True, True),
        }
        for letter, expected in letters.items():
            for receiver in (at(0), at(305), ("host", 1), ("clerk", -1)):
                world = World(3, 3, [])
                world.net.append((receiver, at(1), letter))
                self.assert_may(world, *expected)

    def test_bases_of_replicas_count(self):
        world = self.elected(3, 3)
        world.choose(deed(2, next(b for b in range(343) if b % 2 == 1 and b // 7 % 3 == 2)))
        self.empty(world)
        self.choose(world, deed(3, 3), choice(8, 0))
        self.assertEqual((world.machines[0].replicas[1].base[2], world.machines[0].replicas[1].entries), ((0, 1), []))
        self.assert_may(world, False, False, True)

    def test_wiped_identities_hold_nothing(self):
        world = World(4, 4, [])
        self.choose(world, deed(0, 3))
        self.assert_may(world, False, False, False, True)


class Deeds(WorldTest):
    def test_what_is_wiped_is_lost(self):
        world = self.elected(3, 3, [[[("put", 5, 7)]]])
        self.choose(world, choice(13))
        self.empty(world)
        self.choose(world, deed(0, 0))
        self.assertEqual((world.wiped, world.machines[0]), ([0], None))
        self.assertTrue(world.settle())
        self.assertEqual((world.view(), world.clerks[0].idle()), ({5: 7}, True))

    def test_one_that_comes_back_is_somebody_else(self):
        world = self.elected(3, 3)
        self.choose(world, deed(0, 2), choice(12, 2), choice(10, 3))
        self.empty(world)
        self.assertEqual(world.machines[2].replicas, {})
        world.choose(deed(2, next(b for b in range(343) if b % 2 == 1 and b // 7 % 4 == 2)))
        self.empty(world)
        world.choose(deed(2, next(b for b in range(343) if b % 2 == 1 and b // 7 % 3 == 2)))
        self.empty(world)
        self.choose(world, choice(10, 3))
        self.empty(world)
        replica = world.machines[2].replicas[1]
        self.assertEqual((replica.me, replica.members), (102, (0, 1, 102)))
        self.assertEqual(replica.base[0], 0)


if __name__ == "__main__":
    import unittest
    unittest.main()
