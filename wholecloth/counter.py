"""Counters: the state of group 0, which gives times (points 16 and 17)."""


class Counter:
    """A counter; `last` is the last time that it has given."""

    def __init__(self, last=0):
        self.last = last

    def run(self, command):
        """Execute a command and return its answer (point 16)."""
        match command:
            case ("next",):
                self.last += 1
                return "time", self.last
            case ("none",):
                return ("none",)
            case _:
                return ("unknown",)

    def picture(self):
        """Return the record of the whole state (point 17)."""
        return "counter", self.last
