"""Points [10] to [15]: every kind of node alone, below and above the others, held against the plain machine."""

import unittest

from both import Both

from pullworks.errors import LimitExceeded
from pullworks.nets import Net

PULLS = 40

# Every source gives what other nodes may stumble over: equal items, falling items, an early end, no items at all.
SOURCES = [
    ("count", (0, 1)), ("count", (5, -2)), ("count", (3, 0)), ("span", (2, 3, 9)), ("span", (0, 1, 0)), ("span", (7, -1, 1)),
    ("ring", ([1, 1, 2],)), ("ring", ([4],)), ("row", ([],)), ("row", ([3, 3, 1, 1, 1, 0, 6],)),
]

SINGLES = [
    ("scale", (3, -1)), ("scale", (0, 4)), ("table", ([5, 5, 1],)), ("table", ([-2],)),
    ("keep", (("mod", 3, [0, 2]),)), ("keep", (("below", 4),)), ("keep", (("not", ("from", 9)),)), ("keep", (("mod", 2, []),)),
    ("until", (("below", 7),)), ("until", (("mod", 4, [0, 1]),)), ("until", (("from", 0),)),
    ("after", (("below", 5),)), ("after", (("mod", 2, [1]),)), ("after", (("not", ("not", ("from", 3))),)),
    ("take", (0,)), ("take", (1,)), ("take", (5,)), ("drop", (0,)), ("drop", (1,)), ("drop", (4,)),
    ("step", (1,)), ("step", (2,)), ("step", (5,)),
    ("batch", (1, "sum", "give")), ("batch", (3, "sum", "give")), ("batch", (3, "sum", "lose")),
    ("batch", (2, "first", "give")),
    ("batch", (4, "last", "give")), ("batch", (4, "last", "lose")), ("batch", (5, "many", "give")),
    ("batch", (2, "many", "lose")),
    ("pairs", ()), ("heads", ()), ("lengths", ()), ("stutter", (1,)), ("stutter", (3,)),
    ("ahead", (0,)), ("ahead", (1,)), ("ahead", (6,)),
    ("fault", (0, "net")), ("fault", (1, "net")), ("fault", (4, "net")), ("fault", (60, "net")),
    ("dying", ()), ("calm", ("stop",)), ("calm", ("skip",)), ("closing", ("bye",)),
]

JOINS = [
    ("chain", ()), ("zip", ("first",)), ("zip", ("last",)), ("zip", ("sum",)), ("longest", (-1, "first")),
    ("longest", (-1, "last")), ("longest", (-1, "sum")), ("turns", ()), ("choose", ()),
]

# Below the node that is tried: other counts, equal items, errors in several places, an end behind some items.
LOWER = [
    [("count", (0, 1))],
    [("ring", ([2, 2, 0, 5],)), ("fault", (2, "disk"))],
    [("row", ([1, 1, 4, 0, 0, 3, 8],)), ("fault", (0, "disk")), ("fault", (6, "net"))],
    [("span", (-3, 2, 11)), ("fault", (11, "disk")), ("stutter", (2,))],
    [("count", (12, -1)), ("keep", (("not", ("mod", 3, [1])),))],
    [("count", (0, 1)), ("until", (("below", 6),)), ("fault", (6, "late"))],
]


def over(lower, *kinds):
    """Return nodes one over the other."""
    nodes = []
    for at, (kind, parameters) in enumerate([*lower, *kinds]):
        nodes.append(("n" + "abcdefghij"[at], kind, parameters, [nodes[-1][0]] if nodes else []))
    return nodes


def beside(*chains):
    """Return the nodes of several chains, and the names of their last nodes."""
    nodes = []
    tops = []
    for at, chain in enumerate(chains):
        letter = "uvwxyz"[at]
        nodes += [(letter + name, kind, parameters, [letter + lower for lower in inputs])
                  for name, kind, parameters, inputs in over(chain)]
        tops.append(nodes[-1][0])
    return nodes, tops


class NodesTest(unittest.TestCase):

    def check(self, nodes, many=PULLS):
        try:
            net = Net(nodes)
        except LimitExceeded:
            return
        Both(self, net).pull_all(many)

    def test_sources(self):
        for source in SOURCES:
            self.check(over([source]))

    def test_one_node_over_each_source(self):
        for source in SOURCES:
            for kind in SINGLES:
                self.check(over([source], kind))

    def test_one_node_over_errors_and_ends(self):
        for lower in LOWER:
            for kind in SINGLES:
                self.check(over(lower, kind))
                self.check(over(lower, kind, ("fault", (3, "top")), ("calm", ("skip",))))

    def test_each_node_over_each_node(self):
        for at, one in enumerate(SINGLES):
            for number, other in enumerate(SINGLES):
                self.check(over(LOWER[(at + number) % len(LOWER)], one, other))

    def test_joins_of_sources(self):
        for join in JOINS:
            for at, source in enumerate(SOURCES):
                for number in range(1, 4):
                    lower = [SOURCES[(at + number * step) % len(SOURCES)] for step in (1, 3)]
                    nodes, tops = beside([source], [lower[0]], [lower[1]])
                    self.check([*nodes, ("z", *join, tops)])

    def test_joins_of_one_input(self):
        for join in JOINS[:-1]:
            for lower in LOWER:
                nodes, tops = beside(lower)
                self.check([*nodes, ("z", *join, tops)])

    def test_joins_over_errors_and_ends(self):
        for join in JOINS:
            for at, one in enumerate(LOWER):
                for other in LOWER:
                    nodes, tops = beside(one, other, LOWER[(at + 2) % len(LOWER)])
                    self.check([*nodes, ("z", *join, tops)])
                    self.check([*nodes, ("z", *join, tops), ("zz", "calm", ("skip",), ["z"])])

    def test_joins_over_each_node(self):
        for join in JOINS:
            for at, kind in enumerate(SINGLES):
                nodes, tops = beside([*LOWER[at % 3], kind], [SOURCES[at % len(SOURCES)]], [("ring", ([0, 1, 1],)), kind])
                self.check([*nodes, ("z", *join, tops)])

    def test_each_node_over_joins(self):
        for at, kind in enumerate(SINGLES):
            for number, join in enumerate(JOINS):
                nodes, tops = beside(LOWER[(at + number) % len(LOWER)], [SOURCES[at % len(SOURCES)]], LOWER[at % len(LOWER)])
                self.check([*nodes, ("y", *join, tops), ("z", *kind, ["y"])])

    def test_ten_inputs(self):
        for join in JOINS:
            nodes, tops = [], []
            for at, letter in enumerate("abcdefghij"):
                kind = SOURCES[at]
                nodes.append((letter, *kind, []))
                tops.append(letter)
            self.check([*nodes, ("z", *join, tops)], 80)

    def test_joins_of_one_split(self):
        for join in JOINS:
            for lower in LOWER:
                below = over(lower)
                top = below[-1][0]
                for uses in (2, 5):
                    self.check([*below, ("s", "split", (), [top]), ("z", *join, ["s"] * uses)])
                self.check([*below, ("s", "split", (), [top]), ("x", "drop", (2,), ["s"]), ("y", "heads", (), ["s"]),
                            ("z", *join, ["s", "x", "y", "s"])])

    def test_each_node_over_a_split(self):
        for at, kind in enumerate(SINGLES):
            below = over(LOWER[at % len(LOWER)])
            nodes = [*below, ("s", "split", (), [below[-1][0]]), ("x", *kind, ["s"]), ("y", "scale", (1, 0), ["s"])]
            self.check(nodes, 60)
            self.check([*nodes, ("z", "zip", ("sum",), ["x", "y"])])
            self.check([*nodes, ("z", "turns", (), ["x", "y"])])

    def test_splits_over_splits(self):
        for at, kind in enumerate(SINGLES):
            below = over(LOWER[at % len(LOWER)])
            nodes = [*below, ("s", "split", (), [below[-1][0]]), ("t", "split", (), ["s"]), ("x", *kind, ["t"]),
                     ("y", "step", (2,), ["t"]), ("w", "closing", ("over",), ["s"])]
            self.check(nodes, 60)
            self.check([*nodes, ("z", "longest", (9, "sum"), ["y", "x", "t"])], 60)


if __name__ == "__main__":
    unittest.main()
