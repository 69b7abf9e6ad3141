"""Point 44: the desk, line by line."""

import copy
import unittest

from wholecloth.desk import Desk
from wholecloth.errors import BadLine
from wholecloth.world import World


def state(desk):
    """What can be seen of a desk's world."""
    world = desk.world
    if world is None:
        return None
    return copy.deepcopy((world.net, world.identities, [clerk.deals for clerk in world.clerks], world.groups,
                          world.history, world.wiped, world.ledgers, [disk.size for disk in world.disks],
                          [machine is None for machine in world.machines]))


class DeskTest(unittest.TestCase):
    def desk(self, *lines, begin="world 3 3"):
        desk = Desk()
        for line in (begin,) + lines:
            desk.do(line)
        return desk

    def assert_bad(self, desk, *lines):
        """The lines raise BadLine and change nothing."""
        before, world = state(desk), desk.world
        for line in lines:
            with self.assertRaises(BadLine, msg=repr(line)):
                desk.do(line)
            self.assertIs(desk.world, world)
            self.assertEqual(state(desk), before, line)


class Lines(DeskTest):
    def test_the_example(self):
        desk = Desk()
        for line, answer in (("world 3 3", "ready"), ("deal 0 put 5 7 ; get 5", "deal 0"), ("settle", "settled"),
                             ("story", "2 0 0"), ("told 0 0", "done none 7"), ("view", "5=7")):
            self.assertEqual(desk.do(line), answer)

    def test_before_the_first_world(self):
        lines = ("deal 0 get 5", "choice 0", "settle", "story", "view", "told 0 0", "", "world", "world 3", "world 0 0",
                 "world 3 4")
        self.assert_bad(Desk(), *lines)

    def test_world(self):
        for machines in range(1, 6):
            for members in range(1, machines + 1):
                desk = Desk()
                self.assertEqual(desk.do("world " + str(machines) + " " + str(members)), "ready")
                self.assertIsInstance(desk.world, World)
                self.assertEqual(len(desk.world.machines), machines)
                self.assertEqual(desk.world.machines[0].replicas[0].members, tuple(range(members)))
                self.assertEqual([clerk.deals for clerk in desk.world.clerks], [[], [], [], []])

    def test_wrong_worlds(self):
        lines = ("world 0 0", "world 1 0", "world 3 4", "world 6 3", "world 6 6", "world -1 -1", "world 3 -1",
                 "world 3", "world", "world 3 3 3", "world 3  3", "world three 3", "world 03 3", "world 3 +3",
                 "world 3 none", "World 3 3", "world 3 3 ", " world 3 3", "world\t3 3", "world 3 3\n")
        self.assert_bad(Desk(), *lines)
        self.assert_bad(self.desk("deal 0 get 5", "settle"), *lines)

    def test_a_new_world_begins_anew(self):
        desk = self.desk("deal 0 put 5 7", "settle")
        self.assertEqual(desk.do("world 2 1"), "ready")
        self.assertEqual((desk.do("story"), desk.do("view"), len(desk.world.machines)), ("empty", "empty", 2))
        self.assert_bad(desk, "told 0 0")
        self.assertEqual(desk.do("deal 0 get 1"), "deal 0")


class Deals(DeskTest):
    def test_numbers(self):
        desk = self.desk()
        for n in range(4):
            for client in (0, 3):
                self.assertEqual(desk.do("deal " + str(client) + " get 5"), "deal " + str(n))
        self.assert_bad(desk, "deal 0 get 5", "deal 3 get 5")
        self.assertEqual(desk.do("deal 1 get 5"), "deal 0")

    def test_operations(self):
        desk = self.desk()
        desk.do("deal 1 get 0 ; put 999 -5 ; put 4 none ; add 4 1000000000000000000 ; need 3 none ; scan 0 1000")
        self.assertEqual(desk.world.clerks[1].deals, [[
            ("get", 0), ("put", 999, -5), ("put", 4, None), ("add", 4, 10 ** 18), ("need", 3, None),
            ("scan", 0, 1000)]])
        desk.do("deal 1 need 3 0")
        desk.do("deal 1 scan 7 7")
        self.assertEqual(desk.world.clerks[1].deals[1:], [[("need", 3, 0)], [("scan", 7, 7)]])

    def test_what_is_no_deal(self):
        many = "deal 0 " + " ; ".join(["get 1"] * 7)
        self.assert_bad(
            self.desk(), many, "deal 0", "deal", "deal 0 ", "deal 0 ;", "deal 0 get", "deal 0 get 1 ;",
            "deal 0 ; get 1", "deal 0 get 1 ; ; get 2", "deal 0 get 1;get 2", "deal 0 get 1 ;get 2",
            "deal 0 get 1; get 2", "deal 0 get 1 2", "deal 0 get 1000", "deal 0 get -1", "deal 0 get none",
            "deal 0 put 1", "deal 0 put 1 2 3", "deal 0 put none 1", "deal 0 put 1 1000000000000000001",
            "deal 0 put 1 -1000000000000000001", "deal 0 add 1 none", "deal 0 add 1", "deal 0 need 1",
            "deal 0 scan 5 4", "deal 0 scan 0 1001", "deal 0 scan 0 none", "deal 0 scan 0", "deal 0 take 1",
            "deal 0 GET 1", "deal 0 get 1 ,", "deal 0 none", "deal 0 7", "deal 0 get ;", "deal 0 get 1 , get 2",
            "deal 0 put 1 None", "deal 0 get 1  ; get 2", "deal 0 get 1 ;  get 2")

    def test_clients(self):
        self.assert_bad(self.desk(), "deal 4 get 5", "deal -1 get 5", "deal none get 5", "deal 00 get 5",
                        "deal get 5", "deal +1 get 5", "deal 0x1 get 5", "deal 1.0 get 5")

    def test_six_operations(self):
        self.assertEqual(self.desk().do("deal 2 " + " ; ".join(["get 1"] * 6)), "deal 0")


class Numbers(DeskTest):
    def test_their_form(self):
        wrong = ("01", "+1", "-0", "-01", "--1", "", "-", "1_0", "1e3", "0x1", "1.0", "1.", "\u0661", "\u00b2", "one",
                 "1 ", "None", "00", "1\n", "9" * 41, "-" + "9" * 41, "1" + "0" * 40)
        desk = self.desk()
        self.assert_bad(desk, *["choice " + word for word in wrong])
        self.assert_bad(desk, *["deal 0 put 5 " + word for word in wrong])
        self.assert_bad(desk, *["told " + word + " 0" for word in wrong])

    def test_40_figures(self):
        desk = self.desk()
        self.assertEqual(desk.do("choice " + "9" * 40), "letters " + str(len(desk.world.net)))
        self.assertEqual(desk.do("choice 1" + "0" * 39), "letters " + str(len(desk.world.net)))
        self.assert_bad(desk, "deal 0 add 5 " + "9" * 40, "deal 0 add 5 -" + "9" * 40)

    def test_values(self):
        for word in ("0", "-1", "10", "-1000000000000000000", "1000000000000000000"):
            desk = self.desk()
            desk.do("deal 0 put 5 " + word)
            self.assertEqual(desk.world.clerks[0].deals, [[("put", 5, int(word))]])


class Choices(DeskTest):
    def test_letters(self):
        desk = self.desk("deal 0 get 5")
        self.assertEqual(desk.do("choice 0"), "letters 0")
        self.assertEqual(desk.do("choice 13"), "letters 1")
        self.assertEqual(desk.do("choice 7"), "letters 2")
        self.assertEqual(desk.do("choice 6"), "letters 1")
        self.assertEqual(desk.do("choice 0"), "letters 1")
        self.assertEqual(desk.world.net[0][2][0], "lost")

    def test_they_are_those_of_the_world(self):
        desk, world = self.desk("deal 0 put 5 7", "deal 1 get 5"), World(3, 3, [[[("put", 5, 7)]], [[("get", 5)]], [], []])
        for n in range(400):
            choice = (n * 7919) % 3001
            self.assertEqual(desk.do("choice " + str(choice)), "letters " + str(world.choose(choice) or len(world.net)))
        self.assertEqual(desk.world.net, world.net)

    def test_wrong_choices(self):
        self.assert_bad(self.desk(), "choice", "choice -1", "choice none", "choice 1 2", "choice x", "choice  1",
                        "choice 1 ", "Choice 1")


class Answers(DeskTest):
    def test_settle(self):
        desk = self.desk("deal 0 add 5 1", "deal 1 add 5 1")
        self.assertEqual(desk.do("settle"), "settled")
        self.assertEqual(desk.do("settle"), "settled")
        desk.world.settle = lambda: False
        self.assertEqual(desk.do("settle"), "unsettled")

    def test_story_and_view(self):
        desk = self.desk()
        self.assertEqual((desk.do("story"), desk.do("view")), ("empty", "empty"))
        for line in ("deal 0 put 9 1 ; put 10 -2", "deal 2 get 9", "deal 0 put 9 none", "deal 3 add 100 0", "settle"):
            desk.do(line)
        story = desk.world.story()
        self.assertEqual(len(story), 4)
        self.assertEqual(desk.do("story"), ", ".join("{} {} {}".format(*triple) for triple in story))
        self.assertEqual(desk.do("view"), "10=-2, 100=0")

    def test_one_deal(self):
        desk = self.desk("deal 3 put 0 0", "settle")
        self.assertEqual((desk.do("story"), desk.do("view")), ("2 3 0", "0=0"))

    def test_told(self):
        desk = self.desk(
            "deal 1 put 5 7 ; get 5 ; scan 0 10 ; put 3 -4 ; scan 0 10 ; get 8",
            "deal 1 put 5 8 ; need 5 9", "deal 1 need 5 9", "deal 1 scan 500 600")
        for n in range(4):
            self.assertEqual(desk.do("told 1 " + str(n)), "not told")
        desk.do("settle")
        self.assertEqual([desk.do("told 1 " + str(n)) for n in range(4)],
                         ["done none 7 [5=7] none [3=-4 5=7] none", "failed none", "failed", "done []"])

    def test_forgotten_deals_are_not_told(self):
        desk = self.desk("deal 0 get 5", "deal 0 get 6", "choice 13", "choice 14", "settle")
        self.assertEqual((desk.do("told 0 0"), desk.do("told 0 1")), ("not told", "done none"))

    def test_wrong_questions(self):
        desk = self.desk("deal 0 get 5", "deal 0 get 5")
        self.assert_bad(desk, "told 0 2", "told 0 -1", "told 1 0", "told 4 0", "told -1 0", "told 0", "told", "told 0 0 0",
                        "told none 0", "told 0 none", "told 0 00", "settle now", "story 1", "view 0", "Settle", "",
                        " ", " settle", "settle ", "story  ", "  ", "hello", "none", "settle\n", "\tview", "story,",
                        "settle\u00a0", ";", "0")
        self.assertEqual(desk.do("told 0 1"), "not told")

    def test_the_last_client(self):
        desk = self.desk("deal 3 get 5")
        self.assertEqual(desk.do("told 3 0"), "not told")
        self.assert_bad(desk, "told -1 0", "told 3 1", "told 3 -1", "told 2 0")


if __name__ == "__main__":
    unittest.main()
