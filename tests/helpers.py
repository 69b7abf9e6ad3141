"""What several tests use."""


class Touchy:
    """A thing that is compared with nothing, and is no key of a dictionary."""

    def __eq__(self, other):
        raise TypeError("this is compared with nothing")

    __hash__ = None


def numbers(seed):
    """Yield numbers that look arbitrary, the same ones each time."""
    while True:
        seed = (seed * 6364136223846793005 + 1442695040888963407) % 2 ** 64
        yield seed >> 33
