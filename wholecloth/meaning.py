"""Deals: what they are, and what they mean on one dictionary (points 3 to 6)."""

from wholecloth.errors import BadDeal
from wholecloth.kinds import is_plain_integer

KEYS = 1000
LIMIT = 10 ** 18
MOST_OPERATIONS = 6
# The operations that set a key, or remove it.
SETTING = ("put", "add")


def is_key(thing):
    """Tell whether a thing is a key (point 3)."""
    return is_plain_integer(thing) and 0 <= thing < KEYS


def is_value(thing):
    """Tell whether a thing is a value (point 3). None is the lack of one."""
    return is_plain_integer(thing) and -LIMIT <= thing <= LIMIT


def is_scan(low, high):
    """Tell whether two things are the borders of a scan (point 4)."""
    return is_plain_integer(low) and is_plain_integer(high) and 0 <= low <= high <= KEYS


def is_operation(thing):
    """Tell whether a thing is an operation (point 4)."""
    if not isinstance(thing, tuple) or len(thing) < 2 or not isinstance(thing[0], str):
        return False
    if thing[0] == "get":
        return len(thing) == 2 and is_key(thing[1])
    if len(thing) != 3:
        return False
    word, first, second = thing
    if word == "scan":
        return is_scan(first, second)
    if word == "add":
        return is_key(first) and is_value(second)
    return word in ("put", "need") and is_key(first) and (second is None or is_value(second))


def check_deal(ops):
    """Raise BadDeal if `ops` is not a list that is a deal (point 4)."""
    if not isinstance(ops, list):
        raise BadDeal("a deal is a list of operations")
    if not 1 <= len(ops) <= MOST_OPERATIONS:
        raise BadDeal("a deal has 1 to 6 operations")
    for op in ops:
        if not is_operation(op):
            raise BadDeal("a deal contains something that is not an operation")


def new_value(table, op):
    """Return the value that a put or an add sets; None removes the key."""
    word, key, value = op
    if word == "add":
        return table.get(key, 0) + value
    return value


def is_failing(table, op):
    """Tell whether an operation fails on a dictionary (point 5)."""
    if op[0] == "need":
        return table.get(op[1]) != op[2]
    return op[0] == "add" and not is_value(new_value(table, op))


def result_of(table, op):
    """Return what an operation gives that does not fail on this dictionary."""
    if op[0] == "get":
        return table.get(op[1])
    if op[0] == "add":
        return new_value(table, op)
    if op[0] == "scan":
        return [(key, table[key]) for key in sorted(table) if op[1] <= key < op[2]]
    return None


def execute(table, ops):
    """Return the outcome, the results, and a new dictionary behind the deal (point 5)."""
    after = dict(table)
    results = []
    for op in ops:
        if is_failing(after, op):
            return "failed", results, dict(table)
        results.append(result_of(after, op))
        if op[0] in SETTING:
            value = new_value(after, op)
            if value is None:
                after.pop(op[1], None)
            else:
                after[op[1]] = value
    return "done", results, after


def span_of(op):
    """Return the pair of the keys that an operation reads, or None if it reads none."""
    if op[0] == "put":
        return None
    if op[0] != "scan":
        return op[1], op[1] + 1
    if op[1] < op[2]:
        return op[1], op[2]
    return None


def spans(ops):
    """Return the list of the spans of a deal, each one once (point 6)."""
    found = []
    for op in ops:
        span = span_of(op)
        if span is not None and span not in found:
            found.append(span)
    return found


def changes(table, ops):
    """Return the list of the changes of a deal on a dictionary (point 6)."""
    outcome, _, after = execute(table, ops)
    if outcome == "failed":
        return []
    keys = sorted({op[1] for op in ops if op[0] in SETTING})
    return [(key, after.get(key)) for key in keys]


def replay(deals):
    """Execute deals one after the other; return their answers and the last dictionary."""
    answers = []
    table = {}
    for ops in deals:
        outcome, results, table = execute(table, ops)
        answers.append((outcome, results))
    return answers, table
