"""The errors of the program."""


class WholeclothError(ValueError):
    """The base class of all errors of the program."""


class BadDeal(WholeclothError):
    """What was given is not a deal (point 4)."""


class BadRecord(WholeclothError):
    """What was given is not a record, or not the cells of one (point 7)."""


class BadHistory(WholeclothError):
    """What was given is not a record of deals (point 43)."""


class BadLine(WholeclothError):
    """What was given is not a line of the desk (point 44)."""
