"""What replicas ask of bases, entries and commands (point 19)."""

from wholecloth.counter import Counter
from wholecloth.kinds import is_plain_integer
from wholecloth.table import table_of

MOST_MEMBERS = 5


def state_of(base):
    """Return the counter or the table that the picture of a base shows."""
    picture = base[3]
    if picture[0] == "counter":
        return Counter(picture[1])
    return table_of(picture)


def is_change(command):
    """Tell whether a command changes the members of a group."""
    return command[0] == "members" and len(command) == 2


def members_of(base, entries, many):
    """Return the members by a base and so many of the entries behind it."""
    for at in range(many - 1, -1, -1):
        command = entries[at][1]
        if is_change(command):
            return command[1]
    return base[2]


def are_identities(thing):
    """Tell whether a thing is a tuple of 1 to 5 identities in ascending order."""
    if not isinstance(thing, tuple) or not 1 <= len(thing) <= MOST_MEMBERS:
        return False
    if not all([is_plain_integer(identity) for identity in thing]):
        return False
    return all([low < high for low, high in zip(thing, thing[1:])])


def difference(first, second):
    """Return the list of the identities that are in one of two tuples alone."""
    return [one for one in first if one not in second] + [one for one in second if one not in first]


def is_majority(some, members):
    """Tell whether a list of members is more than half of all of them."""
    return 2 * len(some) > len(members)


def machine_of(identity):
    """Return the number of the machine that has an identity (point 18)."""
    return identity % 100
