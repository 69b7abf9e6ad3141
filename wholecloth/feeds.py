"""Feeds: the versions of a table from one time to another (point 42)."""


def feed(table, after, upto):
    """Return the triples (time, key, value) of the versions behind the first time, up to the second one."""
    found = []
    for key in range(table.low, table.high):
        for time, value in table.versions(key):
            if after < time <= upto:
                found.append((time, key, value))
    return sorted(found, key=lambda row: (row[0], row[1]))


def state_at(table, time):
    """Return the dictionary of the values of a table at a time."""
    state = {}
    for key in range(table.low, table.high):
        value = table.value(key, time)
        if value is not None:
            state[key] = value
    return state


def follow(state, triples):
    """Return a new dictionary: a state behind the triples of a feed."""
    after = dict(state)
    for _, key, value in triples:
        if value is None:
            after.pop(key, None)
        else:
            after[key] = value
    return after
