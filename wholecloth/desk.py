"""The desk: a world that is operated by lines of words (point 44)."""

from wholecloth.errors import BadDeal, BadLine
from wholecloth.meaning import check_deal
from wholecloth.world import World

CLIENTS = 4
MOST_DEALS = 4
MOST_MACHINES = 5
MOST_FIGURES = 40
FIGURES = "0123456789"


def number_of(word):
    """Return the integer that a word writes; BadLine if it writes none."""
    figures = word[1:] if word.startswith("-") else word
    if not 1 <= len(figures) <= MOST_FIGURES or not all([figure in FIGURES for figure in figures]):
        raise BadLine("this is not an integer")
    if word == "-0" or (len(figures) > 1 and figures[0] == "0"):
        raise BadLine("an integer is written without leading zeros")
    return int(word)


def number_within(word, low, high):
    """Return the integer that a word writes; BadLine if it is not within these bounds."""
    number = number_of(word)
    if not low <= number <= high:
        raise BadLine("this number is not as it must be")
    return number


def argument_of(word):
    """Return the argument of an operation that a word writes."""
    if word == "none":
        return None
    return number_of(word)


def operations_of(words):
    """Return the list of the operations that words write, divided by semicolons; BadLine if they are no deal."""
    rows = [[]]
    for word in words:
        if word == ";":
            rows.append([])
        else:
            rows[-1].append(word)
    ops = [tuple(row[:1] + [argument_of(part) for part in row[1:]]) for row in rows]
    try:
        check_deal(ops)
    except BadDeal:
        raise BadLine("this is not a deal") from None
    return ops


def text_of(thing):
    """Return how a result is written."""
    if thing is None:
        return "none"
    if isinstance(thing, list):
        return "[" + " ".join([pair_text(key, value) for key, value in thing]) + "]"
    return str(thing)


def pair_text(key, value):
    """Return how a key and its value are written."""
    return str(key) + "=" + str(value)


def list_text(texts):
    """Return how a list of texts is written."""
    if len(texts) == 0:
        return "empty"
    return ", ".join(texts)


class Desk:
    """A desk, which has no world at first."""

    def __init__(self):
        self.world = None

    def do(self, line):
        """Do what a line says and return the answer; BadLine, and nothing changes, if it says nothing."""
        words = line.split(" ")
        if len(words) == 3 and words[0] == "world":
            return self.begin(words[1], words[2])
        if self.world is None:
            raise BadLine("the first line begins a world")
        match words:
            case ["deal", client, *rest]:
                return self.add_deal(client, rest)
            case ["choice", number]:
                return self.choose(number)
            case ["settle"]:
                return "settled" if self.world.settle() else "unsettled"
            case ["story"]:
                return list_text([" ".join([str(part) for part in triple]) for triple in self.world.story()])
            case ["view"]:
                return list_text([pair_text(key, value) for key, value in sorted(self.world.view().items())])
            case ["told", client, number]:
                return self.told(client, number)
        raise BadLine("there is no such line")

    def begin(self, machines, members):
        """Begin a new world."""
        many = number_within(machines, 1, MOST_MACHINES)
        self.world = World(many, number_within(members, 1, many), [[] for _ in range(CLIENTS)])
        return "ready"

    def deals_of(self, client):
        """Return the deals of a client."""
        return self.world.clerks[client].deals

    def add_deal(self, word, words):
        """Append a deal to the list of a client."""
        client = number_within(word, 0, CLIENTS - 1)
        ops = operations_of(words)
        many = len(self.deals_of(client))
        if many == MOST_DEALS:
            raise BadLine("a client has at most 4 deals")
        self.world.clerks[client].deals.append(ops)
        return "deal " + str(many)

    def choose(self, word):
        """Make a choice."""
        choice = number_of(word)
        if choice < 0:
            raise BadLine("a choice is at least 0")
        self.world.choose(choice)
        return "letters " + str(len(self.world.net))

    def told(self, word, other):
        """Say what a client was told of a deal."""
        client = number_within(word, 0, CLIENTS - 1)
        number = number_within(other, 0, len(self.deals_of(client)) - 1)
        for event in self.world.history:
            if event[:3] == ("told", client, number):
                return " ".join([event[3]] + [text_of(result) for result in event[4]])
        return "not told"
