"""Point 38: what settling a world means, step by step."""

import unittest

from test_world import WorldTest, at, choice, deed
from wholecloth.world import World

READ, WRITE = [("get", 5)], [("put", 5, 7)]


class Noted(World):
    """A world that notes what happens while it settles."""

    def __init__(self, *arguments):
        self.notes = []
        World.__init__(self, *arguments)

    def deliver(self, place):
        receiver, _, letter = self.net[place]
        self.notes.append(("deliver", place, receiver, letter[0]))
        World.deliver(self, place)

    def sync(self, number):
        self.notes.append(("sync", number))
        World.sync(self, number)

    def rouse(self, number, group):
        self.notes.append(("rouse", number, group))
        World.rouse(self, number, group)

    def act(self, client):
        self.notes.append(("act", client))
        World.act(self, client)

    def steps(self, *words):
        return [note for note in self.notes if note[0] in words]


class Stuck(Noted):
    """A world in which no clerk ever acts."""

    def act(self, client):
        self.notes.append(("act", client))


class Full(Noted):
    """A world in which each letter that is delivered is sent again."""

    def deliver(self, place):
        self.net.append(self.net[place])
        Noted.deliver(self, place)


class Settle(WorldTest):
    def test_nothing_to_do(self):
        world = Noted(3, 2, [[], []])
        self.assertIs(world.settle(), True)
        self.assertEqual(world.notes, [("sync", 0), ("sync", 1), ("sync", 2)])
        self.assertEqual((world.history, world.machines[0].replicas[0].role), ([], "follower"))

    def test_stopped_machines_start(self):
        world = World(3, 3, [])
        self.choose(world, choice(11, 0), choice(11, 2), deed(0, 2))
        self.assertEqual([machine is None for machine in world.machines], [True, False, True])
        self.assertTrue(world.settle())
        self.assertEqual([machine.identity for machine in world.machines], [0, 1, 102])

    def test_a_round(self):
        world = Noted(1, 1, [[READ]])
        self.assertTrue(world.settle())
        self.assertEqual(world.notes[:5], [("sync", 0), ("rouse", 0, 0), ("rouse", 0, 1), ("sync", 0), ("act", 0)])
        self.assertEqual(world.notes[5:9], [("sync", 0), ("deliver", 0, ("host", 0), "call"), ("sync", 0),
                                            ("deliver", 0, ("clerk", 0), "told")])
        self.assertEqual(world.steps("act", "rouse"), [("rouse", 0, 0), ("rouse", 0, 1), ("act", 0)])
        self.assertEqual(world.history, [("asked", 0, 0), ("told", 0, 0, "done", [None], 1)])

    def test_all_deals_come_to_an_end(self):
        for machines in range(1, 6):
            for members in range(1, machines + 1):
                world = World(machines, members, [[WRITE, READ], [], [[("add", 5, 1)]], [READ, [("need", 5, 99)]]])
                self.assertTrue(world.settle())
                self.assertEqual([clerk.idle() for clerk in world.clerks], [True] * 4)
                self.assertEqual(len(world.history), 10)
                self.assertEqual(world.view(), {5: 8})
                self.assertTrue(world.settle())

    def test_clients_come_one_after_the_other(self):
        world = World(3, 3, [[WRITE, READ], [], [READ], [READ, READ]])
        self.assertTrue(world.settle())
        self.assertEqual([event[1:3] for event in world.history if event[0] == "told"],
                         [(0, 0), (0, 1), (2, 0), (3, 0), (3, 1)])

    def test_open_calls_of_others_are_heard_meanwhile(self):
        world = World(3, 3, [[READ], [READ]])
        self.choose(world, choice(13, 1))
        self.assertTrue(world.settle())
        self.assertEqual([event[:3] for event in world.history],
                         [("asked", 1, 0), ("asked", 0, 0), ("told", 0, 0), ("told", 1, 0)])

    def test_a_deal_that_ends_within_a_round(self):
        """Who acts is seen behind the second emptying: the nudge may have brought a deal to its end."""
        for others in ([], [[READ]]):
            world = self.elected(2, 2, [[READ]] + others)
            self.choose(world, choice(13, 0))
            while world.net[0][2][-1] != ("read", (0, 0, 0), 1, 5, 6):
                self.choose(world, 0, choice(8, 0), choice(8, 1))
            self.choose(world, 0, choice(8, 0))
            self.assertEqual([(receiver, letter[0]) for receiver, _, letter in world.net], [(at(1), "copy")])
            self.choose(world, choice(6, 0))
            world.__class__ = Noted
            world.notes = []
            self.assertTrue(world.settle())
            self.assertEqual(world.steps("act")[:1], [("act", 1)] * len(others))
            self.assertNotIn(("act", 0), world.notes)
            self.assertEqual([event[1] for event in world.history if event[0] == "told"], [0, 1][:1 + len(others)])

    def test_the_net_is_emptied_first(self):
        world = Noted(3, 3, [[READ]])
        self.choose(world, choice(10, 1), choice(10, 4), choice(13))
        world.notes.clear()
        self.assertTrue(world.settle())
        self.assertEqual(world.notes[:5], [("sync", 0), ("sync", 1), ("sync", 2),
                                           ("deliver", 0, ("host", 0), "call"), ("sync", 0)])
        self.assertEqual(world.steps("rouse")[:2], [("rouse", 1, 0), ("rouse", 1, 1)])
        self.assertEqual(world.machines[1].replicas[0].term, 1)

    def test_letters_are_delivered_in_order_with_syncs_between(self):
        world = Noted(2, 2, [[READ]])
        self.assertTrue(world.settle())
        syncs = 0
        for note in world.notes:
            if note[0] == "sync":
                self.assertEqual(note[1], syncs % 2)
                syncs += 1
            else:
                self.assertEqual(syncs % 2, 0)
                if note[0] == "deliver":
                    self.assertEqual(note[1], 0)
        self.assertEqual(syncs // 2, len(world.steps("deliver")) + 2 * len(world.steps("act")) + 1)

    def test_the_leader_with_the_greatest_term_nudges(self):
        world = Noted(3, 3, [[READ]])
        for number, term, role in ((0, 1, "leader"), (1, 3, "leader"), (2, 4, "candidate")):
            replica = world.machines[number].replicas[0]
            replica.term, replica.role = term, role
            replica.expect((0, 1, 2))
        world.rouse_best(0)
        self.assertEqual(world.steps("rouse"), [("rouse", 1, 0)])
        world.machines[0].replicas[0].term = 3
        world.rouse_best(0)
        self.assertEqual(world.steps("rouse")[1:], [("rouse", 0, 0)])
        self.assertEqual([letter[0] for _, _, letter in world.net], ["copy"] * 4)

    def test_the_newest_replica_stands(self):
        logs = (
            (((1, 1), (1, 1), (1, 1)), 0), (((1, 1), (2,), (1, 1, 1)), 1), (((1,), (1, 1), (1, 1)), 1),
            (((1, 2), (2,), (1, 1, 2)), 2), (((), (), ()), 0), (((), (), (1,)), 2),
        )
        for terms, best in logs:
            world = Noted(3, 3, [])
            for number, row in enumerate(terms):
                world.machines[number].replicas[1].entries = [(term, ("none",)) for term in row]
            world.rouse_best(1)
            self.assertEqual(world.steps("rouse"), [("rouse", best, 1)], terms)
            self.assertEqual(world.machines[best].replicas[1].role, "candidate")

    def test_the_term_of_a_base_counts(self):
        world = Noted(3, 3, [])
        world.machines[0].replicas[1].entries = [(1, ("none",))] * 3
        base = world.machines[1].replicas[1].base
        world.machines[1].replicas[1].base = (1, 2) + base[2:]
        world.rouse_best(1)
        self.assertEqual(world.steps("rouse"), [("rouse", 1, 1)])

    def test_blank_ones_do_not_stand(self):
        world = Noted(3, 1, [])
        world.machines[2].take(0, ("ask", 0, 1, 0, 0))
        world.machines[2].replicas[0].term = 50
        world.rouse_best(0)
        world.rouse_best(5)
        self.assertEqual(world.notes, [("rouse", 0, 0)])

    def test_a_vote_of_a_greater_term_is_learned(self):
        world = World(2, 2, [[WRITE]])
        for _ in range(300):
            self.choose(world, choice(10, 1), choice(10, 3))
        self.choose(world, choice(8, 1), choice(11, 1), choice(12, 1))
        self.choose(world, *[choice(6)] * 400)
        terms = [machine.replicas[0].term for machine in world.machines]
        self.assertEqual((terms, world.net), ([0, 300], []))
        world.machines[0].replicas[0].entries = [(1, ("none",))]
        self.assertTrue(world.settle())
        self.assertEqual(world.view(), {5: 7})

    def test_the_number_of_rounds(self):
        for deals, done, left in (([[READ]], 0, 1), ([[READ, READ], [READ]], 0, 3), ([[READ, READ], [], [READ]], 1, 2)):
            world = Stuck(1, 1, deals)
            for _ in range(done):
                World.act(world, 0)
                world.clerks[0].forget()
            world.net.clear()
            self.assertIs(world.settle(), False)
            self.assertEqual(len(world.steps("act")), 100 + 100 * left)
            self.assertEqual({note for note in world.steps("act")}, {("act", 0)})

    def test_a_deal_at_work_is_counted(self):
        world = Stuck(1, 1, [[READ, READ]])
        World.act(world, 0)
        world.clerks[0].calls.clear()
        world.net.clear()
        self.assertIs(world.settle(), False)
        self.assertEqual(len(world.steps("act")), 300)

    def test_at_most_4000_letters(self):
        world = Full(2, 1, [])
        world.net.append((("clerk", -1), at(0), ("told", 1, ("none",))))
        self.assertIs(world.settle(), True)
        self.assertEqual(len(world.steps("deliver")), 4000)
        self.assertEqual(len(world.steps("sync")), 8000)

    def test_after_a_forgotten_deal(self):
        world = World(3, 3, [[WRITE, READ]])
        self.choose(world, choice(13), choice(14, 0))
        self.assertTrue(world.settle())
        self.assertEqual([event[:3] for event in world.history], [("asked", 0, 0), ("asked", 0, 1), ("told", 0, 1)])


if __name__ == "__main__":
    unittest.main()
