"""What several tests use."""


class Touchy:
    """A thing that is compared with nothing, and is no key of a dictionary."""

    def __eq__(self, other):
        raise TypeError("this is compared with nothing")

    __hash__ = None
