"""The judge: whether there is one order of deals that explains what was told (point 43)."""

from wholecloth.errors import BadDeal, BadHistory
from wholecloth.kinds import is_plain_integer
from wholecloth.meaning import check_deal, execute

MOST_NAMES = 7


def are_same(made, told):
    """Tell whether something that was told, whatever it is, is what a deal has given."""
    if isinstance(made, list):
        return isinstance(told, list) and are_all_same(made, told)
    if isinstance(made, tuple):
        return isinstance(told, tuple) and are_all_same(made, told)
    if isinstance(made, str):
        return isinstance(told, str) and made == told
    if made is None:
        return told is None
    # True equals 1, but it is not a value.
    return is_plain_integer(told) and made == told


def are_all_same(made, told):
    """Tell whether the parts of two lists or tuples are the same."""
    return len(made) == len(told) and all([are_same(one, other) for one, other in zip(made, told)])


class Asked:
    """A deal that was asked."""

    def __init__(self, ops, earlier):
        self.ops = ops
        # The names of the deals that were told before this one was asked.
        self.earlier = earlier
        # The pair of the outcome and the results that were told, or None.
        self.answer = None


class Record:
    """A record of deals."""

    def __init__(self):
        self.deals = {}

    def read(self, event):
        """Add an event; BadHistory if it cannot be the next one."""
        if not isinstance(event, tuple) or len(event) < 3 or not isinstance(event[0], str):
            raise BadHistory("this is not an event")
        if not is_plain_integer(event[1]):
            raise BadHistory("a name is an integer")
        if event[0] == "asked" and len(event) == 3:
            self.ask(event[1], event[2])
        elif event[0] == "told" and len(event) == 4:
            self.tell(event[1], event[2], event[3])
        else:
            raise BadHistory("this is neither asked nor told")

    def ask(self, name, ops):
        """Add a deal."""
        if name in self.deals:
            raise BadHistory("a deal is asked once")
        if len(self.deals) == MOST_NAMES:
            raise BadHistory("there are at most 7 deals")
        try:
            check_deal(ops)
        except BadDeal:
            raise BadHistory("what is asked is a deal") from None
        self.deals[name] = Asked(ops, self.told())

    def tell(self, name, outcome, results):
        """Note what was told of a deal."""
        if name not in self.deals:
            raise BadHistory("a deal is told after it was asked")
        deal = self.deals[name]
        if deal.answer is not None:
            raise BadHistory("a deal is told once")
        deal.answer = (outcome, results)

    def told(self):
        """Return the list of the names of the deals that were told."""
        return [name for name in self.deals if self.deals[name].answer is not None]

    def order_behind(self, chosen, table):
        """Return an order of all told deals, and perhaps others, that begins with the chosen ones; None without one."""
        if all([name in chosen for name in self.told()]):
            return chosen
        for name, deal in self.deals.items():
            if name in chosen or not all([other in chosen for other in deal.earlier]):
                continue
            outcome, results, after = execute(table, deal.ops)
            if deal.answer is None or are_same((outcome, results), deal.answer):
                found = self.order_behind(chosen + [name], after)
                if found is not None:
                    return found
        return None


def judge(history):
    """Return a list of names that explains a record of deals, or None; BadHistory if it is none."""
    if not isinstance(history, list):
        raise BadHistory("a record of deals is a list")
    record = Record()
    for event in history:
        record.read(event)
    return record.order_behind([], {})
