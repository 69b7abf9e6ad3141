"""Journals: lists of records on disks (points 9 to 11)."""

from wholecloth.codes import flatten, rebuild
from wholecloth.errors import BadRecord

# The most cells of a block.
CELLS = 6


def blocks_of(record, generation, number):
    """Return the list of the blocks of a record (point 9)."""
    cells = flatten(record)
    parts = (len(cells) + CELLS - 1) // CELLS
    return [
        (generation, number, part, parts, tuple(cells[part * CELLS:(part + 1) * CELLS]))
        for part in range(parts)
    ]


def blocks_at(disk, place, number):
    """Return the blocks from a place on that belong together as one record's; an empty list if they do not."""
    first = disk.look(place)
    if first is None:
        return []
    generation = first[0]
    parts = first[3]
    blocks = []
    # A block may claim any number of parts, so the first one that is missing ends the search.
    while len(blocks) < parts:
        block = disk.look(place + len(blocks))
        if block is None or block[:4] != (generation, number, len(blocks), parts):
            return []
        blocks.append(block)
    return blocks


def record_of(blocks):
    """Return the record of blocks; BadRecord if their cells are not those of exactly one."""
    cells = []
    for block in blocks:
        cells.extend(block[4])
    return rebuild(cells)


class Journal:
    """A journal, opened on a disk with an empty cache."""

    def __init__(self, disk):
        self.disk = disk
        self.records = []
        self.generation = 1 + max([block[0] for block in disk.readable()], default=0)
        # Where the next record is written.
        self.place = 0
        self.read()

    def read(self):
        """Read the records that stand on the disk one behind the other (point 10)."""
        least = None
        blocks = blocks_at(self.disk, 0, 0)
        while blocks and (least is None or blocks[0][0] >= least):
            try:
                record = record_of(blocks)
            except BadRecord:
                return
            self.records.append(record)
            least = blocks[0][0]
            self.place += len(blocks)
            blocks = blocks_at(self.disk, self.place, len(self.records))

    def enter(self, record, *, sync=False):
        """Append a record; BadRecord if it is none."""
        blocks = blocks_of(record, self.generation, len(self.records))
        for block in blocks:
            self.disk.write(self.place, block)
            self.place += 1
        self.records.append(record)
        if sync:
            self.disk.sync()
