"""Stories: what the tables of the ledgers and the history say of the deals (point 40)."""

from wholecloth.meaning import SETTING


def decided_deals(tables):
    """Return the triples (time, client, n) of the deals that the tables have committed."""
    found = []
    for table in tables:
        _, _, _, _, _, decisions, _ = table.picture()
        for deal, time in decisions:
            if time != 0:
                found.append((time, deal[0], deal[1]))
    return found


def is_changing(ops, outcome):
    """Tell whether a deal with this outcome has changes."""
    return outcome == "done" and any([op[0] in SETTING for op in ops])


def is_committed(table, deal):
    """Tell whether a table has committed a deal."""
    return table.decision(deal) not in (None, 0)


def last_values(table):
    """Return the list of the pairs (key, value) of the last versions of a table."""
    pairs = []
    for key in range(table.low, table.high):
        versions = table.versions(key)
        if len(versions) > 0:
            pairs.append((key, versions[-1][1]))
    return pairs


def values_to_come(table, tables):
    """Return the list of the changes of the prepared deals of a table that their leads have committed."""
    pairs = []
    _, _, _, _, prepared, _, _ = table.picture()
    for deal, _, _, changes, lead in prepared:
        if is_committed(tables[lead], deal):
            pairs.extend(changes)
    return pairs
