"""What several tests use."""


class Touchy:
    """A thing that is compared with nothing, and is no key of a dictionary."""

    def __eq__(self, other):
        raise TypeError("this is compared with nothing")

    __hash__ = None


def numbers(seed):
    """Yield numbers that look arbitrary, the same ones each time."""
    while True:
        seed = (seed * 6364136223846793005 + 1442695040888963407) % 2 ** 64
        yield seed >> 33


def counter_base(*members, index=0, term=0, last=0):
    """The base of a group with a counter."""
    return (index, term, members, ("counter", last))


def table_base(*members, index=0, term=0, low=0, high=1000):
    """The base of a group with an empty table."""
    return (index, term, members, ("table", low, high, (), (), (), ()))


def emptied(replica):
    """The letters, records, answers, births and ledger of a replica, which are taken away."""
    found = {}
    for name in ("letters", "records", "answers", "births", "ledger"):
        found[name] = list(getattr(replica, name))
        getattr(replica, name).clear()
    return found
