"""Points [2], [7] and [8]: what can be asked of a net, equality, and copies."""

import copy
import unittest

from makers import Claimer, count, nots, scale, split, strange_values

from pullworks.errors import InvalidName, LimitExceeded, PullError
from pullworks.nets import Net, cells, loops, outlets, sources_of, weight


def rich_nodes():
    """Return nodes with every place where a list may stand."""
    return [
        ("a", "ring", ([3, 1, 2],), []),
        ("b", "row", ([5, 6],), []),
        ("c", "table", ([7, 8],), ["a"]),
        ("d", "until", (nots(3, ("mod", 4, [1, 3])),), ["b"]),
        ("s", "split", (), ["c"]),
        ("e", "zip", ("sum",), ["s", "d", "s"]),
    ]


class AskedTest(unittest.TestCase):

    def test_node_list(self):
        net = Net(rich_nodes())
        self.assertEqual(net.node_list(), rich_nodes())
        self.assertIsInstance(net.node_list(), list)
        for node in net.node_list():
            self.assertIsInstance(node, tuple)
            self.assertIsInstance(node[2], tuple)
            self.assertIsInstance(node[3], list)

    def test_length(self):
        self.assertEqual(len(Net([count()])), 1)
        self.assertEqual(len(Net(rich_nodes())), 6)

    def test_contains(self):
        net = Net(rich_nodes())
        for name in "abcdse":
            self.assertIs(name in net, True)
        for value in [*strange_values(), "f", "aa", "A", ["a"], ("a",), {"a"}, b"a", count(), rich_nodes()[0], 0, net]:
            with self.subTest(repr(value)):
                self.assertIs(value in net, False)

    def test_item(self):
        net = Net(rich_nodes())
        for node in rich_nodes():
            self.assertEqual(net[node[0]], node)
        for value in [*strange_values(), "f", "aa", "A", ["a"], ("a",), {"a"}, b"a", 0, 1, -1, slice(0, 1), net]:
            with self.subTest(repr(value)):
                with self.assertRaises(InvalidName) as caught:
                    net[value]
                self.assertIs(caught.exception.name, value)

    def test_outlets(self):
        self.assertEqual(outlets(Net([count()])), ["a"])
        self.assertEqual(outlets(Net(rich_nodes())), ["e"])
        self.assertEqual(outlets(Net([count("b"), count("a"), count("c"), scale("d", "a")])), ["b", "c", "d"])
        nodes = [count("z"), split("s", "z"), scale("y", "s"), count("b"), scale("x", "s"), scale("w", "y")]
        self.assertEqual(outlets(Net(nodes)), ["b", "x", "w"])

    def test_sources_of(self):
        net = Net(rich_nodes())
        for name, wanted in (("a", ["a"]), ("b", ["b"]), ("c", ["a"]), ("d", ["b"]), ("s", ["a"]), ("e", ["a", "b"])):
            self.assertEqual(sources_of(net, name), wanted)

    def test_sources_of_in_the_order_of_the_nodes(self):
        nodes = [count("d"), count("c"), count("b"), count("a"), split("s", "b"), ("x", "chain", (), ["a", "s", "d"]),
                 ("y", "zip", ("sum",), ["s", "c"]), ("z", "choose", (), ["y", "x"])]
        net = Net(nodes)
        self.assertEqual(sources_of(net, "x"), ["d", "b", "a"])
        self.assertEqual(sources_of(net, "y"), ["c", "b"])
        self.assertEqual(sources_of(net, "z"), ["d", "c", "b", "a"])
        self.assertEqual(sources_of(net, "s"), ["b"])

    def test_sources_of_below_splits_and_joins(self):
        nodes = [count("a"), ("b", "span", (0, 1, 2), []), ("c", "turns", (), ["a", "b"]), split("s", "c"), split("t", "s"),
                 ("r", "row", ([],), []), ("x", "longest", (0, "sum"), ["t", "t", "s", "r"]), scale("y", "t")]
        net = Net(nodes)
        self.assertEqual(sources_of(net, "x"), ["a", "b", "r"])
        self.assertEqual(sources_of(net, "y"), ["a", "b"])
        self.assertEqual(sources_of(net, "t"), ["a", "b"])

    def test_sources_of_no_name(self):
        net = Net(rich_nodes())
        for value in [*strange_values(), "f", "aa", "A", ["a"], ("a",), {"a"}, b"a", 0, net]:
            with self.subTest(repr(value)):
                with self.assertRaises(InvalidName) as caught:
                    sources_of(net, value)
                self.assertIs(caught.exception.name, value)

    def test_arguments_by_name(self):
        net = Net(nodes=rich_nodes())
        self.assertEqual(outlets(net=net), ["e"])
        self.assertEqual(sources_of(net=net, name="d"), ["b"])
        self.assertEqual([cells(net=net), weight(net=net), loops(net=net)], [9, 144, 0])

    def test_each_in_its_file(self):
        for one in (Net, outlets, sources_of, cells, weight, loops):
            self.assertEqual(one.__module__, "pullworks.nets")
        for method in ("__init__", "__eq__", "__len__", "__contains__", "__getitem__", "node_list"):
            self.assertIn(method, vars(Net))


class EqualityTest(unittest.TestCase):

    def assert_unlike(self, one, other):
        self.assertIs(one == other, False)
        self.assertIs(other == one, False)
        self.assertIs(one != other, True)
        self.assertIs(other != one, True)

    def test_equal(self):
        one, other = Net(rich_nodes()), Net(rich_nodes())
        self.assertIs(one == one, True)
        self.assertIs(one == other, True)
        self.assertIs(one != other, False)
        self.assertIs(one == Net(one.node_list()), True)

    def test_another_order_of_the_nodes(self):
        self.assert_unlike(Net([count("a"), count("b")]), Net([count("b"), count("a")]))
        nodes = rich_nodes()
        self.assert_unlike(Net(nodes), Net([nodes[1], nodes[0], *nodes[2:]]))

    def test_another_part_of_a_node(self):
        net = Net([count("a"), count("b"), ("c", "zip", ("sum",), ["a", "b"])])
        for other in ([count("a"), count("b"), ("d", "zip", ("sum",), ["a", "b"])],
                      [count("a"), count("b"), ("c", "chain", (), ["a", "b"])],
                      [count("a"), count("b"), ("c", "zip", ("last",), ["a", "b"])],
                      [count("a"), count("b"), ("c", "zip", ("sum",), ["b", "a"])],
                      [count("a"), count("b"), ("c", "zip", ("sum",), ["b"])],
                      [count("a"), ("b", "count", (0, 2), []), ("c", "zip", ("sum",), ["a", "b"])],
                      [count("a"), ("b", "ring", ([0],), []), ("c", "zip", ("sum",), ["a", "b"])],
                      [count("a"), count("b")], [count("a")],
                      [count("a"), count("b"), ("c", "zip", ("sum",), ["a", "b"]), count("d")]):
            self.assert_unlike(net, Net(other))

    def test_another_list_within_a_parameter(self):
        for one, other in (([3, 1, 2], [3, 2, 1]), ([0], [0, 0]), ([1], [2])):
            self.assert_unlike(Net([("a", "ring", (one,), [])]), Net([("a", "ring", (other,), [])]))
        one = [count(), ("b", "keep", (nots(2, ("mod", 4, [1])),), ["a"])]
        other = [count(), ("b", "keep", (nots(2, ("mod", 4, [3])),), ["a"])]
        self.assert_unlike(Net(one), Net(other))
        other = [count(), ("b", "keep", (("mod", 4, [1]),), ["a"])]
        self.assert_unlike(Net(one), Net(other))

    def test_values_of_other_kinds(self):
        net = Net([count()])
        for value in [None, 0, 1, True, "a", [], [count()], (count(),), {"a": count()}, object(), Net, count()]:
            with self.subTest(repr(value)):
                self.assert_unlike(net, value)

    def test_an_object_that_claims_to_be_equal(self):
        net = Net([count()])
        self.assertIs(net == Claimer(), False)
        self.assertIs(net != Claimer(), True)


class CopyTest(unittest.TestCase):

    def test_lists_that_were_passed_in(self):
        nodes = rich_nodes()
        net = Net(nodes)
        nodes[0][2][0][0] = 99
        nodes[1][2][0].clear()
        nodes[2][2][0].append(1)
        nodes[3][2][0][1][1][1][2].append(2)
        nodes[3][3][0] = "a"
        nodes[5][3].reverse()
        del nodes[4]
        nodes.append(None)
        self.assertEqual(net, Net(rich_nodes()))
        self.assertEqual(net.node_list(), rich_nodes())
        self.assertEqual([len(net), weight(net), outlets(net), "s" in net], [6, 144, ["e"], True])

    def test_a_list_that_stands_twice(self):
        shared = [1, 2]
        net = Net([("a", "ring", (shared,), []), ("b", "row", (shared,), [])])
        shared.append(3)
        self.assertEqual(net.node_list(), [("a", "ring", ([1, 2],), []), ("b", "row", ([1, 2],), [])])

    def test_lists_that_were_returned(self):
        net = Net(rich_nodes())
        nodes = net.node_list()
        nodes[0][2][0][0] = 99
        nodes[3][2][0][1][1][1][2].append(2)
        nodes[5][3].reverse()
        nodes.clear()
        net["a"][2][0].append(4)
        net["d"][2][0][1][1][1][2].clear()
        net["e"][3].append("d")
        outlets(net).append("a")
        sources_of(net, "e").clear()
        self.assertEqual(net, Net(rich_nodes()))
        self.assertEqual(net.node_list(), rich_nodes())
        self.assertEqual([net["a"], net["d"], net["e"]], [rich_nodes()[0], rich_nodes()[3], rich_nodes()[5]])
        self.assertEqual([outlets(net), sources_of(net, "e")], [["e"], ["a", "b"]])

    def test_results_are_new(self):
        net = Net(rich_nodes())
        self.assertIsNot(net.node_list(), net.node_list())
        self.assertIsNot(net.node_list()[0][2][0], net.node_list()[0][2][0])
        self.assertIsNot(net["a"][2][0], net["a"][2][0])
        self.assertIsNot(net["e"][3], net["e"][3])
        self.assertIsNot(outlets(net), outlets(net))
        self.assertIsNot(sources_of(net, "e"), sources_of(net, "e"))

    def test_what_is_handed_in_stays(self):
        nodes = rich_nodes()
        Net(nodes)
        self.assertEqual(nodes, rich_nodes())
        wrong = [[*rich_nodes(), count()], [*rich_nodes(), split("z", "e")], [("a", "ring", ([1, True],), [])],
                 [("r" + letter, "ring", ([1] * 50,), []) for letter in "abcd"]]
        for nodes in wrong:
            before = copy.deepcopy(nodes)
            with self.assertRaises(PullError):
                Net(nodes)
            self.assertEqual(nodes, before)

    def test_equal_arguments_give_equal_results(self):
        one, other = Net(rich_nodes()), Net(rich_nodes())
        for asked in (outlets, cells, weight, loops, len):
            self.assertEqual(asked(one), asked(other))
            self.assertEqual(asked(one), asked(one))
        for _ in range(2):
            with self.assertRaises(LimitExceeded):
                Net([("r" + letter, "ring", ([1] * 50,), []) for letter in "abcd"])


if __name__ == "__main__":
    unittest.main()
