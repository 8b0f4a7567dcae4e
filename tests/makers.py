"""What several tests need: values of every kind, and short ways to make nets."""

from unittest.mock import ANY

from pullworks.errors import InvalidNet, LimitExceeded
from pullworks.nets import Net

FAR = 10 ** 30


class Claimer:
    """An object that claims to equal everything."""

    def __eq__(self, other):
        return True

    __hash__ = None


def strange_values():
    """Values of many kinds: no test, no node, no list of nodes, no name and no integer among them."""
    return [None, True, False, "", "Ab", "a1", "a b", "abcdefghijklm", b"a", (), (1,), [], [1], {}, {"a": 1}, set(),
            {1}, frozenset(), range(3), object(), len, Net, Claimer(), ANY, (ANY, ANY), [ANY], (ANY, ANY, ANY, ANY)]


def verdict(nodes):
    """Return "net", ("node", at) or ("limit", limit): what comes of making a net of these nodes."""
    try:
        Net(nodes)
    except InvalidNet as error:
        return "node", error.at
    except LimitExceeded as error:
        return "limit", error.limit
    return "net"


def count(name="a"):
    return (name, "count", (0, 1), [])


def scale(name, lower):
    return (name, "scale", (1, 0), [lower])


def split(name, lower):
    return (name, "split", (), [lower])


def chain_of(kinds):
    """Return nodes n, na, naa and so on, each with one input, over a count with the name a."""
    nodes = [count()]
    for kind, parameters in kinds:
        nodes.append(("n" + "a" * (len(nodes) - 1), kind, parameters, [nodes[-1][0]]))
    return nodes


def nots(many, test):
    """Return a test behind so many "not"."""
    for _ in range(many):
        test = ("not", test)
    return test


END = ("end",)


def item(value):
    return ("item", value)


def items(*values):
    """Return the results that are these items."""
    return [("item", value) for value in values]


def error(word="net"):
    return ("error", word)


def row(*values):
    """Return the kind and parameters of a row."""
    return ("row", (list(values),))


def tower(*kinds):
    """Return the net of nodes one over the other, with the names a, b, c and so on, and the name of the uppermost one."""
    nodes = []
    for at, (kind, parameters) in enumerate(kinds):
        nodes.append(("abcdefghijklmnopqrstuvwxyz"[at], kind, parameters, [nodes[-1][0]] if nodes else []))
    return Net(nodes), nodes[-1][0]


def join(kind, parameters, *lower):
    """Return the net of a node "z" over sources with faults: each of lower is a tuple of kinds with parameters."""
    nodes = []
    tops = []
    for at, kinds in enumerate(lower):
        for number, (below, numbers) in enumerate(kinds):
            name = "abcdefghij"[at] * (number + 1)
            nodes.append((name, below, numbers, [nodes[-1][0]] if number else []))
        tops.append(nodes[-1][0])
    return Net([*nodes, ("z", kind, parameters, tops)])
