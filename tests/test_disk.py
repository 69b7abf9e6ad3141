"""Point 8: disks."""

import unittest

from helpers import numbers
from wholecloth.disk import Disk

LOST, PERFORMED, TORN = 0, 1, 2
FAR = 10 ** 15


def block(number):
    return (1, number, 0, 1, (0, number))


def written(*positions):
    """A disk with synced blocks at these positions."""
    disk = Disk()
    for position in positions:
        disk.write(position, block(position))
    disk.sync()
    return disk


class Model:
    """A second, plainer reading of point 8: all that happened, searched anew each time."""

    def __init__(self):
        self.done, self.cache, self.positions = [], [], []

    def write(self, position, thing):
        self.cache.append((position, thing))
        self.positions.append(position)

    def crash(self, fates):
        for n, (position, thing) in enumerate(self.cache):
            fate = fates[n] if n < len(fates) else LOST
            if fate != LOST:
                self.done.append((position, thing if fate == PERFORMED else None))
        self.cache = []

    def look(self, position):
        for place, thing in reversed(self.done + self.cache):
            if place == position:
                return thing
        return None

    def size(self):
        return max(self.positions) + 1 if self.positions else 0


class Writing(unittest.TestCase):
    def test_an_empty_disk(self):
        disk = Disk()
        self.assertEqual((disk.size, disk.waiting), (0, 0))
        for position in (0, 1, FAR):
            self.assertIsNone(disk.look(position))
        disk.sync()
        disk.crash([])
        disk.crash([1, 2])
        disk.wipe()
        self.assertEqual((disk.size, disk.waiting), (0, 0))

    def test_the_cache_counts(self):
        disk = Disk()
        self.assertIsNone(disk.write(2, block(2)))
        self.assertEqual(disk.look(2), block(2))
        self.assertEqual((disk.size, disk.waiting), (3, 1))
        self.assertIsNone(disk.look(0))
        self.assertIsNone(disk.look(1))
        self.assertIsNone(disk.look(3))

    def test_several_writes_of_one_position(self):
        disk = written(0)
        disk.write(0, block(5))
        disk.write(0, block(6))
        disk.write(0, block(7))
        self.assertEqual((disk.look(0), disk.size, disk.waiting), (block(7), 1, 3))
        self.assertIsNone(disk.sync())
        self.assertEqual((disk.look(0), disk.size, disk.waiting), (block(7), 1, 0))

    def test_sync_keeps_what_was_written(self):
        disk = written(0, 1)
        disk.crash([])
        disk.crash([2, 2, 2])
        self.assertEqual((disk.look(0), disk.look(1), disk.size, disk.waiting), (block(0), block(1), 2, 0))

    def test_disks_share_nothing(self):
        first, second = Disk(), Disk()
        first.write(0, block(1))
        self.assertEqual((second.look(0), second.size, second.waiting), (None, 0, 0))
        first.sync()
        self.assertEqual((second.look(0), second.size, second.waiting), (None, 0, 0))

    def test_positions_far_apart(self):
        disk = written(0, FAR)
        self.assertEqual((disk.look(0), disk.look(1), disk.look(FAR), disk.size), (block(0), None, block(FAR), FAR + 1))
        self.assertEqual(disk.readable(), [block(0), block(FAR)])

    def test_a_size_is_not_set(self):
        disk = Disk()
        with self.assertRaises(AttributeError):
            disk.size = 5
        with self.assertRaises(AttributeError):
            disk.waiting = 5


class Crashes(unittest.TestCase):
    def test_each_fate(self):
        disk = written(0, 1, 2)
        for position in range(6):
            disk.write(position, block(position + 10))
        fates = [LOST, PERFORMED, TORN, LOST, PERFORMED, TORN]
        self.assertIsNone(disk.crash(fates))
        self.assertEqual([disk.look(position) for position in range(6)],
                         [block(0), block(11), None, None, block(14), None])
        self.assertEqual((disk.size, disk.waiting), (6, 0))
        self.assertEqual(fates, [LOST, PERFORMED, TORN, LOST, PERFORMED, TORN])

    def test_fewer_fates_than_writes(self):
        disk = written(1)
        for position in range(4):
            disk.write(position, block(position + 10))
        disk.crash([PERFORMED])
        self.assertEqual([disk.look(position) for position in range(4)], [block(10), block(1), None, None])
        self.assertEqual((disk.size, disk.waiting), (4, 0))

    def test_more_fates_than_writes(self):
        disk = Disk()
        disk.write(0, block(0))
        disk.crash([PERFORMED, TORN, PERFORMED])
        self.assertEqual((disk.look(0), disk.size, disk.waiting), (block(0), 1, 0))

    def test_no_fates(self):
        disk = written(0)
        disk.write(0, block(10))
        disk.write(7, block(17))
        disk.crash([])
        self.assertEqual((disk.look(0), disk.look(7), disk.waiting), (block(0), None, 0))

    def test_the_writes_of_one_position_in_their_order(self):
        for fates, found in (
            ([LOST, LOST], block(0)), ([PERFORMED, LOST], block(1)), ([LOST, PERFORMED], block(2)),
            ([PERFORMED, PERFORMED], block(2)), ([TORN, PERFORMED], block(2)), ([PERFORMED, TORN], None),
            ([TORN, LOST], None), ([LOST, TORN], None), ([TORN, TORN], None), ([PERFORMED], block(1)), ([TORN], None),
        ):
            with self.subTest(fates=fates):
                disk = written(0)
                disk.write(0, block(1))
                disk.write(0, block(2))
                disk.crash(fates)
                self.assertEqual(disk.look(0), found)
                self.assertEqual(disk.readable(), [] if found is None else [found])

    def test_a_torn_block_is_written_again(self):
        disk = Disk()
        disk.write(3, block(1))
        disk.crash([TORN])
        self.assertIsNone(disk.look(3))
        disk.write(3, block(2))
        self.assertEqual(disk.look(3), block(2))
        disk.crash([LOST])
        self.assertIsNone(disk.look(3))
        disk.write(3, block(3))
        disk.sync()
        self.assertEqual(disk.look(3), block(3))

    def test_a_size_counts_lost_and_torn_writes(self):
        disk = Disk()
        disk.write(4, block(4))
        disk.crash([])
        self.assertEqual(disk.size, 5)
        disk.write(2, block(2))
        self.assertEqual(disk.size, 5)
        disk.write(8, block(8))
        disk.crash([PERFORMED, TORN])
        self.assertEqual(disk.size, 9)

    def test_a_crash_does_not_come_back(self):
        disk = Disk()
        disk.write(0, block(1))
        disk.crash([LOST])
        disk.sync()
        self.assertIsNone(disk.look(0))


class Wipes(unittest.TestCase):
    def test_all_is_gone(self):
        disk = written(0, 5)
        disk.write(7, block(7))
        disk.crash([TORN])
        disk.write(0, block(1))
        self.assertIsNone(disk.wipe())
        self.assertEqual((disk.size, disk.waiting, disk.readable()), (0, 0, []))
        for position in range(9):
            self.assertIsNone(disk.look(position))
        disk.sync()
        self.assertIsNone(disk.look(0))

    def test_it_is_written_anew(self):
        disk = written(5)
        disk.wipe()
        disk.write(1, block(1))
        self.assertEqual((disk.look(1), disk.size, disk.waiting), (block(1), 2, 1))


class Readable(unittest.TestCase):
    def test_in_the_order_of_the_positions(self):
        disk = written(7, 3, 100, 5)
        disk.write(4, block(4))
        disk.write(3, block(30))
        disk.write(5, block(5))
        self.assertEqual(disk.readable(), [block(30), block(4), block(5), block(7), block(100)])
        disk.crash([LOST, LOST, TORN])
        found = disk.readable()
        self.assertEqual(found, [block(3), block(7), block(100)])
        found.append(1)
        self.assertEqual(disk.readable(), [block(3), block(7), block(100)])


class Histories(unittest.TestCase):
    def test_many_of_them(self):
        source = numbers(8)
        for _ in range(300):
            disk, model = Disk(), Model()
            for _ in range(next(source) % 40):
                deed = next(source) % 12
                if deed < 8:
                    position, thing = next(source) % 7, block(next(source) % 1000)
                    disk.write(position, thing)
                    model.write(position, thing)
                elif deed < 11:
                    fates = [next(source) % 3 for _ in range(next(source) % 9)]
                    disk.crash(fates)
                    model.crash(fates)
                else:
                    disk.sync()
                    model.crash([PERFORMED] * len(model.cache))
                self.assertEqual([disk.look(position) for position in range(8)],
                                 [model.look(position) for position in range(8)])
                self.assertEqual((disk.size, disk.waiting), (model.size(), len(model.cache)))


if __name__ == "__main__":
    unittest.main()
