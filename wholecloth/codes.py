"""Records as lists of integers, their cells (point 7)."""

from wholecloth.errors import BadRecord
from wholecloth.kinds import is_plain_integer

WORDS = (
    "decided", "read", "away", "busy", "rows", "prepare", "prepared", "stale",
    "decide", "missing", "drop", "finish", "split", "none", "unknown", "next",
    "time", "counter", "table", "members", "follower", "candidate", "leader", "ask",
    "vote", "copy", "base", "got", "make", "term", "entry",
)

# The first cell of a record tells its kind.
INTEGER = 0
NONE = 1
FALSE = 2
TRUE = 3
WORD = 4
TUPLE = 5

DEEPEST = 30


def plain_cells(record):
    """Return the cells of a record that is not a tuple."""
    if record is None:
        return [NONE]
    if record is False:
        return [FALSE]
    if record is True:
        return [TRUE]
    if isinstance(record, int):
        return [INTEGER, record]
    if isinstance(record, str) and record in WORDS:
        return [WORD, WORDS.index(record)]
    raise BadRecord("this is not a record")


def nested_cells(record, room):
    """Return the cells of a record that may be nested `room` deep."""
    if not isinstance(record, tuple):
        return plain_cells(record)
    if room == 0:
        raise BadRecord("a record is nested at most 30 deep")
    cells = [TUPLE, len(record)]
    for part in record:
        cells.extend(nested_cells(part, room - 1))
    return cells


def flatten(record):
    """Return the list of the cells of a record; BadRecord if it is none."""
    return nested_cells(record, DEEPEST)


def cell_at(cells, at):
    """Return the cell at a place; BadRecord if the cells end before it."""
    if at >= len(cells):
        raise BadRecord("the cells end before the record does")
    return cells[at]


def word_at(cells, at):
    """Return the word whose index stands at a place."""
    index = cell_at(cells, at)
    if not 0 <= index < len(WORDS):
        raise BadRecord("there is no word of this index")
    return WORDS[index]


def tuple_at(cells, at, room):
    """Return the tuple whose length stands at a place, and the place behind it."""
    length = cell_at(cells, at)
    place = at + 1
    # Each part has at least one cell, so no greater length can be right.
    if not 0 <= length <= len(cells) - place:
        raise BadRecord("there is no tuple of this length")
    if room == 0:
        raise BadRecord("a record is nested at most 30 deep")
    parts = []
    for _ in range(length):
        part, place = record_at(cells, place, room - 1)
        parts.append(part)
    return tuple(parts), place


def record_at(cells, at, room):
    """Return the record that begins at a place and may be nested `room` deep, and the place behind it."""
    kind = cell_at(cells, at)
    if kind == INTEGER:
        return cell_at(cells, at + 1), at + 2
    if kind == NONE:
        return None, at + 1
    if kind == FALSE:
        return False, at + 1
    if kind == TRUE:
        return True, at + 1
    if kind == WORD:
        return word_at(cells, at + 1), at + 2
    if kind == TUPLE:
        return tuple_at(cells, at + 1, room)
    raise BadRecord("no record begins with this cell")


def rebuild(cells):
    """Return the record of a list of cells; BadRecord if it is not exactly one."""
    if not isinstance(cells, list):
        raise BadRecord("cells are a list")
    for cell in cells:
        if not is_plain_integer(cell):
            raise BadRecord("each cell is an integer")
    record, behind = record_at(cells, 0, DEEPEST)
    if behind != len(cells):
        raise BadRecord("there are cells behind the record")
    return record
