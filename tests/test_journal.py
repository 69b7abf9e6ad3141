"""Points 9, 10 and 11: journals."""

import copy
import unittest

from helpers import numbers
from wholecloth.codes import flatten, rebuild
from wholecloth.disk import Disk
from wholecloth.errors import BadRecord
from wholecloth.journal import Journal

LOST, PERFORMED, TORN = 0, 1, 2
FAR = 10 ** 15

SHORT = 7
SIX = (1, 2)
SEVEN = (None, None, None, None, None)
LONG = (1, 2, 3, 4, 5, 6)
RECORDS = [
    SHORT, None, True, False, "none", (), SIX, SEVEN, LONG, ("term", 1, 2, None), (None,) * 10, (None,) * 11,
    ("base", 1, (0, 0, (0, 1, 2), ("table", 0, 1000, (), (), (), ()))), -10 ** 18, ((), ((), "entry")),
]


def blocks_on(disk):
    return {position: disk.look(position) for position in range(disk.size) if disk.look(position) is not None}


def disk_with(blocks):
    """A disk with these blocks at the positions 0, 1, 2 and so on, synced; nothing where None stands."""
    disk = Disk()
    for position, block in enumerate(blocks):
        if block is not None:
            disk.write(position, block)
    disk.sync()
    return disk


def records_on(blocks):
    return Journal(disk_with(blocks)).records


def parts_of(record, generation, number):
    """A second reading of point 9."""
    cells = flatten(record)
    chunks = []
    while cells:
        chunks.append(tuple(cells[:6]))
        cells = cells[6:]
    return [(generation, number, part, len(chunks), chunk) for part, chunk in enumerate(chunks)]


def rebuilt(cells):
    """The record in a list, or an empty list."""
    try:
        return [rebuild(cells)]
    except BadRecord:
        return []


def model(blocks):
    """A second, plainer reading of point 10: the records, and the place behind them."""
    records, place, least = [], 0, None
    while True:
        found = None
        for many in range(1, len(blocks) + 1):
            run = [blocks.get(place + part) for part in range(many)]
            if None in run or [block[2] for block in run] != list(range(many)):
                continue
            if {block[3] for block in run} != {many} or {block[1] for block in run} != {len(records)}:
                continue
            if len({block[0] for block in run}) != 1 or (least is not None and run[0][0] < least):
                continue
            record = rebuilt([cell for block in run for cell in block[4]])
            if record:
                found = (record[0], many, run[0][0])
        if found is None:
            return records, place
        records.append(found[0])
        place += found[1]
        least = found[2]


class Entering(unittest.TestCase):
    def test_an_empty_disk(self):
        disk = Disk()
        journal = Journal(disk)
        self.assertEqual((journal.records, journal.generation), ([], 1))
        self.assertEqual((disk.size, disk.waiting), (0, 0))

    def test_a_block(self):
        disk = Disk()
        self.assertIsNone(Journal(disk).enter(SHORT))
        self.assertEqual(disk.look(0), (1, 0, 0, 1, (0, 7)))
        self.assertEqual((disk.size, disk.waiting), (1, 1))

    def test_exactly_six_cells(self):
        disk = Disk()
        Journal(disk).enter(SIX)
        self.assertEqual(disk.look(0), (1, 0, 0, 1, (5, 2, 0, 1, 0, 2)))
        self.assertEqual(disk.size, 1)

    def test_seven_cells(self):
        disk = Disk()
        Journal(disk).enter(SEVEN)
        self.assertEqual(disk.look(0), (1, 0, 0, 2, (5, 5, 1, 1, 1, 1)))
        self.assertEqual(disk.look(1), (1, 0, 1, 2, (1,)))
        self.assertEqual(disk.size, 2)

    def test_twelve_and_thirteen_cells(self):
        for many, parts in ((10, 2), (11, 3), (16, 3), (17, 4)):
            disk = Disk()
            Journal(disk).enter((None,) * many)
            self.assertEqual(disk.size, parts)
            self.assertEqual([disk.look(part)[2:4] for part in range(parts)], [(part, parts) for part in range(parts)])

    def test_one_behind_the_other(self):
        disk = Disk()
        journal = Journal(disk)
        expected = []
        for number, record in enumerate(RECORDS):
            journal.enter(record)
            expected += parts_of(record, 1, number)
        self.assertEqual([disk.look(position) for position in range(disk.size)], expected)
        self.assertEqual(journal.records, RECORDS)
        self.assertEqual(disk.waiting, len(expected))
        self.assertEqual(journal.generation, 1)

    def test_kinds(self):
        disk = Disk()
        Journal(disk).enter(SEVEN)
        for position in range(2):
            block = disk.look(position)
            self.assertIs(type(block), tuple)
            self.assertEqual([type(part) for part in block], [int, int, int, int, tuple])
            self.assertEqual({type(cell) for cell in block[4]}, {int})

    def test_sync(self):
        disk = Disk()
        journal = Journal(disk)
        journal.enter(1)
        self.assertEqual(disk.waiting, 1)
        journal.enter(2, sync=False)
        self.assertEqual(disk.waiting, 2)
        self.assertIsNone(journal.enter(SEVEN, sync=True))
        self.assertEqual(disk.waiting, 0)
        disk.crash([])
        self.assertEqual(Journal(disk).records, [1, 2, SEVEN])
        journal.enter(3)
        self.assertEqual(disk.waiting, 1)
        with self.assertRaises(TypeError):
            journal.enter(4, True)

    def test_what_is_no_record(self):
        disk = Disk()
        journal = Journal(disk)
        journal.enter(1)
        deep = ()
        for _ in range(30):
            deep = (deep,)
        for thing in ("word", [], [1], (1, [2]), 1.5, b"", deep):
            for sync in (False, True):
                with self.assertRaises(BadRecord):
                    journal.enter(thing, sync=sync)
        self.assertEqual((journal.records, disk.size, disk.waiting), ([1], 1, 1))
        journal.enter(2, sync=True)
        self.assertEqual(Journal(disk).records, [1, 2])

    def test_journals_share_nothing(self):
        first, second = Journal(Disk()), Journal(Disk())
        first.enter(1)
        self.assertEqual(second.records, [])


class Opening(unittest.TestCase):
    def test_what_was_entered(self):
        disk = Disk()
        journal = Journal(disk)
        for record in RECORDS:
            journal.enter(record)
        disk.sync()
        again = Journal(disk)
        self.assertEqual(repr(again.records), repr(RECORDS))
        self.assertEqual(again.generation, 2)

    def test_it_writes_nothing(self):
        disk = disk_with(parts_of(SEVEN, 1, 0) + parts_of(LONG, 1, 1)[:1])
        before = blocks_on(disk)
        journal = Journal(disk)
        self.assertEqual(journal.records, [SEVEN])
        self.assertEqual((blocks_on(disk), disk.size, disk.waiting), (before, 3, 0))

    def test_the_next_record_stands_behind_the_last_one(self):
        disk = disk_with(parts_of(SEVEN, 4, 0) + parts_of(SHORT, 4, 1) + parts_of(LONG, 4, 2)[:1])
        journal = Journal(disk)
        journal.enter(SIX)
        self.assertEqual(journal.records, [SEVEN, SHORT, SIX])
        self.assertEqual(disk.look(3), (5, 2, 0, 1, (5, 2, 0, 1, 0, 2)))
        journal.enter(LONG, sync=True)
        self.assertEqual(disk.look(4), (5, 3, 0, 3, (5, 6, 0, 1, 0, 2)))
        again = Journal(disk)
        self.assertEqual((again.records, again.generation), ([SEVEN, SHORT, SIX, LONG], 6))

    def test_the_generation(self):
        self.assertEqual(Journal(disk_with([(3, 0, 0, 1, (0, 7))])).generation, 4)
        self.assertEqual(Journal(disk_with([(3, 0, 0, 1, (0, 7)), (3, 1, 0, 1, (0, 7))])).generation, 4)
        self.assertEqual(Journal(disk_with([(3, 0, 0, 1, (0, 7)), None, None, (9, 5, 3, 4, (1,))])).generation, 10)
        self.assertEqual(Journal(disk_with([(9, 0, 0, 1, (0, 7)), (3, 1, 0, 1, (0, 7))])).generation, 10)
        self.assertEqual(Journal(disk_with([(0, 0, 0, 1, (0, 7))])).generation, 1)
        self.assertEqual(Journal(disk_with([(-5, 0, 0, 1, (0, 7))])).generation, -4)

    def test_the_generation_of_torn_and_lost_blocks(self):
        disk = disk_with([(3, 0, 0, 1, (0, 7))])
        for position in range(3):
            disk.write(position, (20 + position, 0, 0, 1, (0, 8)))
        disk.crash([TORN, LOST, PERFORMED])
        self.assertEqual((Journal(disk).generation, Journal(disk).records), (23, []))
        disk.write(2, (50, 0, 0, 1, (0, 8)))
        disk.crash([TORN])
        self.assertEqual(Journal(disk).generation, 1)

    def test_blocks_far_away(self):
        disk = disk_with([(1, 0, 0, 1, (0, 7))])
        disk.write(FAR, (7, 1, 0, 1, (0, 7)))
        disk.sync()
        journal = Journal(disk)
        self.assertEqual((journal.records, journal.generation), ([7], 8))
        journal.enter(5)
        self.assertEqual(disk.look(1), (8, 1, 0, 1, (0, 5)))

    def test_a_disk_that_begins_with_nothing(self):
        self.assertEqual(records_on([None] + parts_of(SHORT, 1, 0)), [])
        self.assertEqual(records_on(parts_of(SHORT, 1, 1)), [])

    def test_any_first_generation(self):
        for generation in (-3, 0, 1, 2, 100):
            self.assertEqual(records_on(parts_of(SHORT, generation, 0) + parts_of(SEVEN, generation, 1)),
                             [SHORT, SEVEN])

    def test_generations_that_rise(self):
        blocks = parts_of(SHORT, 2, 0) + parts_of(SEVEN, 2, 1) + parts_of(LONG, 5, 2) + parts_of(SIX, 6, 3)
        self.assertEqual(records_on(blocks), [SHORT, SEVEN, LONG, SIX])

    def test_an_elder_generation_behind_a_younger_one(self):
        for elder in (-1, 0, 1, 2):
            blocks = parts_of(SEVEN, 3, 0) + parts_of(SHORT, elder, 1) + parts_of(SHORT, 3, 2)
            self.assertEqual(records_on(blocks), [SEVEN])
        blocks = parts_of(SEVEN, 1, 0) + parts_of(SHORT, 3, 1) + parts_of(SHORT, 2, 2)
        self.assertEqual(records_on(blocks), [SEVEN, SHORT])

    def test_two_generations_in_one_record(self):
        for at in range(3):
            for generation in (1, 3):
                blocks = parts_of(LONG, 2, 0)
                blocks[at] = (generation,) + blocks[at][1:]
                self.assertEqual(records_on(blocks), [])
                self.assertEqual(records_on(parts_of(SHORT, 1, 0) + [block[:1] + (1,) + block[2:] for block in blocks]),
                                 [SHORT])

    def test_a_number_that_is_missing(self):
        self.assertEqual(records_on(parts_of(SHORT, 1, 0) + parts_of(SIX, 1, 2)), [SHORT])
        self.assertEqual(records_on(parts_of(SHORT, 1, 0) + parts_of(SIX, 1, 0)), [SHORT])
        self.assertEqual(records_on(parts_of(SHORT, 1, 0) + parts_of(SIX, 1, -1)), [SHORT])
        self.assertEqual(records_on(parts_of(SHORT, 1, 0) + parts_of(SIX, 1, 2) + parts_of(SIX, 1, 1)), [SHORT])

    def test_a_number_that_differs_within_a_record(self):
        for at in range(3):
            blocks = parts_of(LONG, 1, 0)
            blocks[at] = (1, 1) + blocks[at][2:]
            self.assertEqual(records_on(blocks), [])

    def test_parts_that_are_missing(self):
        for at in range(3):
            blocks = parts_of(LONG, 1, 1)
            blocks[at] = None
            self.assertEqual(records_on(parts_of(SHORT, 1, 0) + blocks), [SHORT])
            del blocks[at]
            self.assertEqual(records_on(parts_of(SHORT, 1, 0) + blocks), [SHORT])

    def test_parts_in_another_order(self):
        first, second, third = parts_of(LONG, 1, 0)
        for blocks in ([second, first, third], [first, third, second], [third, second, first], [first, first, second],
                       [first, second, second, third], [second, third]):
            self.assertEqual(records_on(blocks), [])
        self.assertEqual(records_on([first, second, third, third]), [LONG])

    def test_parts_that_disagree(self):
        for at in range(3):
            for parts in (-1, 0, 1, 2, 4, 10 ** 30):
                blocks = parts_of(LONG, 1, 0)
                blocks[at] = blocks[at][:3] + (parts,) + blocks[at][4:]
                self.assertEqual(records_on(blocks), [])
        self.assertEqual(records_on([(1, 0, 0, 2, (5, 2, 1)), (1, 0, 1, 3, (1,))]), [])

    def test_any_count_of_parts(self):
        for parts in (-10 ** 30, -1, 0, 2, 3, 10 ** 9, 10 ** 30):
            self.assertEqual(records_on([(1, 0, 0, parts, (0, 7))]), [])
            self.assertEqual(records_on([(1, 0, 0, parts, (0, 7)), (1, 1, 0, 1, (0, 7))]), [])

    def test_a_single_block_with_another_part(self):
        for part in (-1, 1, 2):
            self.assertEqual(records_on([(1, 0, part, 1, (0, 7))]), [])

    def test_cells_of_no_record(self):
        for cells in ((0,), (0, 7, 1), (9,), (-1,), (4, 10 ** 9), (4, -1), (5, 1), (5, -1), (5, 10 ** 30), (1, 1),
                      (5, 2, 1), (5, 1, 1, 1), (10 ** 30,)):
            self.assertEqual(records_on([(1, 0, 0, 1, cells)]), [])
            self.assertEqual(records_on(parts_of(SEVEN, 1, 0) + [(1, 1, 0, 1, cells)] + parts_of(SEVEN, 1, 2)), [SEVEN])

    def test_cells_that_are_too_deep(self):
        def chunks(cells):
            parts = (len(cells) + 5) // 6
            return [(1, 0, part, parts, tuple(cells[6 * part:6 * part + 6])) for part in range(parts)]
        deepest = [5, 1] * 29 + [5, 0]
        self.assertEqual(len(records_on(chunks(deepest))), 1)
        self.assertEqual(records_on(chunks([5, 1] + deepest)), [])
        self.assertEqual(records_on(chunks([5, 1] * 20000 + [1])), [])

    def test_parts_of_any_length(self):
        self.assertEqual(records_on([(1, 0, 0, 3, (5,)), (1, 0, 1, 3, (2, 0, 1)), (1, 0, 2, 3, (0, 2))]), [SIX])

    def test_behind_lost_blocks(self):
        disk = Disk()
        journal = Journal(disk)
        journal.enter(SEVEN, sync=True)
        journal.enter(LONG)
        journal.enter(SHORT)
        disk.crash([PERFORMED, LOST, PERFORMED, PERFORMED])
        journal = Journal(disk)
        self.assertEqual((journal.records, journal.generation), ([SEVEN], 2))
        journal.enter(SIX)
        self.assertEqual(disk.look(2), (2, 1, 0, 1, (5, 2, 0, 1, 0, 2)))
        disk.sync()
        self.assertEqual(Journal(disk).records, [SEVEN, SIX])

    def test_behind_torn_blocks(self):
        disk = Disk()
        journal = Journal(disk)
        journal.enter(SHORT, sync=True)
        journal.enter(SEVEN)
        disk.crash([PERFORMED, TORN])
        journal = Journal(disk)
        self.assertEqual((journal.records, journal.generation), ([SHORT], 2))
        journal.enter(LONG, sync=True)
        self.assertEqual(Journal(disk).records, [SHORT, LONG])

    def test_an_elder_record_that_fits_behind_a_younger_one(self):
        disk = Disk()
        journal = Journal(disk)
        journal.enter(1)
        journal.enter(2)
        journal.enter(3)
        disk.crash([TORN, PERFORMED, PERFORMED])
        journal = Journal(disk)
        self.assertEqual(journal.records, [])
        journal.enter(4, sync=True)
        again = Journal(disk)
        self.assertEqual((again.records, again.generation), ([4], 3))

    def test_what_was_passed_stays_as_it_was(self):
        disk = disk_with(parts_of(LONG, 1, 0) + [(4, 4, 4, 4, (4,))])
        before = copy.deepcopy(vars(disk))
        Journal(disk)
        self.assertEqual(vars(disk), before)


class Arbitrary(unittest.TestCase):
    def test_any_blocks(self):
        """Blocks of few kinds, so that they often fit together."""
        source = numbers(10)
        longest = 0
        for _ in range(4000):
            blocks = []
            number, generation = 0, 1
            for _ in range(next(source) % 5):
                record = RECORDS[next(source) % 9]
                blocks += parts_of(record, generation, number)
                number += 1
                generation += next(source) % 3 // 2
            for _ in range(next(source) % 3):
                self.change(blocks, source)
            disk = disk_with(blocks)
            journal = Journal(disk)
            records, place = model(blocks_on(disk))
            self.assertEqual(repr(journal.records), repr(records))
            generations = [block[0] for block in blocks if block is not None]
            self.assertEqual(journal.generation, 1 + max(generations, default=0))
            journal.enter(SEVEN)
            self.assertEqual(disk.look(place), (journal.generation, len(records), 0, 2, (5, 5, 1, 1, 1, 1)))
            longest = max(longest, len(records))
        self.assertEqual(longest, 4)

    def change(self, blocks, source):
        if not blocks:
            return
        at = next(source) % len(blocks)
        deed = next(source) % 8
        if blocks[at] is None or deed == 0:
            blocks[at] = None
        elif deed == 1:
            blocks[at] = blocks[next(source) % len(blocks)]
        elif deed == 2:
            blocks.pop(at)
        elif deed == 3:
            blocks[at] = blocks[at][:4] + (blocks[at][4][:-1] + (next(source) % 6,),)
        else:
            field = deed - 4
            value = blocks[at][field] + next(source) % 3 - 1
            blocks[at] = blocks[at][:field] + (value,) + blocks[at][field + 1:]


class AfterAnyCrash(unittest.TestCase):
    def test_a_beginning_with_all_that_was_synced(self):
        source = numbers(11)
        for _ in range(300):
            disk = Disk()
            kept = []
            for _ in range(6):
                journal = Journal(disk)
                self.assertEqual(journal.records, kept)
                entered = list(kept)
                synced = len(kept)
                for _ in range(next(source) % 6):
                    record = RECORDS[next(source) % len(RECORDS)]
                    sync = next(source) % 5 == 0
                    journal.enter(record, sync=sync)
                    entered.append(record)
                    if sync:
                        synced = len(entered)
                disk.crash([next(source) % 3 for _ in range(next(source) % (disk.waiting + 2))])
                kept = Journal(disk).records
                self.assertEqual(repr(kept), repr(entered[:len(kept)]))
                self.assertGreaterEqual(len(kept), synced)


if __name__ == "__main__":
    unittest.main()
