"""What several tests need: values of every kind, and short ways to make nets."""

from unittest.mock import ANY

from pullworks.errors import InvalidNet, LimitExceeded
from pullworks.nets import Net

FAR = 10 ** 30


class Claimer:
    """An object that claims to equal everything."""

    def __eq__(self, other):
        return True

    __hash__ = None


def strange_values():
    """Values of many kinds: no test, no node, no list of nodes, no name and no integer among them."""
    return [None, True, False, "", "Ab", "a1", "a b", "abcdefghijklm", b"a", (), (1,), [], [1], {}, {"a": 1}, set(),
            {1}, frozenset(), range(3), object(), len, Net, Claimer(), ANY, (ANY, ANY), [ANY], (ANY, ANY, ANY, ANY)]


def verdict(nodes):
    """Return "net", ("node", at) or ("limit", limit): what comes of making a net of these nodes."""
    try:
        Net(nodes)
    except InvalidNet as error:
        return "node", error.at
    except LimitExceeded as error:
        return "limit", error.limit
    return "net"


def count(name="a"):
    return (name, "count", (0, 1), [])


def scale(name, lower):
    return (name, "scale", (1, 0), [lower])


def split(name, lower):
    return (name, "split", (), [lower])


def chain_of(kinds):
    """Return nodes n, na, naa and so on, each with one input, over a count with the name a."""
    nodes = [count()]
    for kind, parameters in kinds:
        nodes.append(("n" + "a" * (len(nodes) - 1), kind, parameters, [nodes[-1][0]]))
    return nodes


def nots(many, test):
    """Return a test behind so many "not"."""
    for _ in range(many):
        test = ("not", test)
    return test
