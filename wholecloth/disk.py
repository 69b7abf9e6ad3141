"""Disks: blocks at positions, behind a cache that a crash may lose or tear (point 8)."""

# The fates of a write in a crash; any other one means that it is lost.
PERFORMED = 1
TORN = 2


class Disk:
    """A disk, which is empty at first."""

    def __init__(self):
        self.wipe()

    def wipe(self):
        """Make the disk what it was when it was new."""
        # None stands for a block that is unreadable.
        self.blocks = {}
        self.cache = []
        # The last block in the cache for each position, so that look need not search the cache.
        self.fresh = {}
        self.reach = 0

    def write(self, position, block):
        """Put a write into the cache."""
        self.cache.append((position, block))
        self.fresh[position] = block
        self.reach = max(self.reach, position + 1)

    def sync(self):
        """Perform all writes of the cache, in order."""
        for position, block in self.cache:
            self.blocks[position] = block
        self.empty_cache()

    def crash(self, fates):
        """Lose, perform or tear the writes of the cache, in order; those without a fate are lost."""
        for (position, block), fate in zip(self.cache, fates):
            if fate == PERFORMED:
                self.blocks[position] = block
            elif fate == TORN:
                self.blocks[position] = None
        self.empty_cache()

    def empty_cache(self):
        """Forget the writes of the cache."""
        self.cache = []
        self.fresh = {}

    def look(self, position):
        """Return the last block written to a position, or None if there is none or it is unreadable."""
        if position in self.fresh:
            return self.fresh[position]
        return self.blocks.get(position)

    def readable(self):
        """Return the list of all blocks that look finds, in the order of their positions."""
        positions = sorted(set(list(self.blocks) + list(self.fresh)))
        found = [self.look(position) for position in positions]
        return [block for block in found if block is not None]

    @property
    def size(self):
        """One more than the greatest position of all writes since the last wipe, or 0."""
        return self.reach

    @property
    def waiting(self):
        """The number of writes in the cache."""
        return len(self.cache)
