"""Points [7] and [9]: cells, weight, loops and load, and the limits of a net."""

import unittest

from makers import FAR, chain_of, count, nots, scale, split, verdict

from pullworks.nets import Net, cells, load, loops, weight


def scales(first, over, many):
    """Return so many scales, one over the other, with names that begin with a letter."""
    nodes = []
    for number in range(many):
        nodes.append(scale(first * (number + 1), nodes[-1][0] if nodes else over))
    return nodes


def joined(name, lower, many):
    return (name, "zip", ("sum",), [lower] * many)


def hundred_cells():
    """Return nodes with 100 cells: 5 below "s", 30 below "y", 32 below "t", 1 + 3 * (1 + 32) in all."""
    nodes = [count("a"), *scales("b", "a", 4), split("s", "bbbb"), joined("x", "s", 5), scale("y", "x")]
    return [*nodes, split("t", "y"), joined("z", "t", 3)]


def rings(*lengths):
    """Return a ring of each length."""
    return [("r" + "abcdefghij"[at], "ring", ([1] * length,), []) for at, length in enumerate(lengths)]


def measures(nodes):
    net = Net(nodes)
    return cells(net), weight(net), loops(net)


class CellsTest(unittest.TestCase):

    def test_without_splits(self):
        self.assertEqual(cells(Net([count()])), 1)
        self.assertEqual(cells(Net([count(), count("b")])), 2)
        self.assertEqual(cells(Net([count(), scale("b", "a")])), 2)
        self.assertEqual(cells(Net([count(), count("b"), ("c", "chain", (), ["b", "a"]), scale("d", "c"), count("e")])), 5)

    def test_one_split(self):
        # Each port counts 1, and 1 for its copy of the count.
        self.assertEqual(cells(Net([count(), split("s", "a"), scale("b", "s")])), 3)
        self.assertEqual(cells(Net([count(), split("s", "a"), scale("b", "s"), scale("c", "s")])), 6)
        self.assertEqual(cells(Net([count(), split("s", "a"), joined("b", "s", 5)])), 11)
        self.assertEqual(cells(Net([count(), split("s", "a"), joined("b", "s", 3), scale("c", "s"), scale("d", "s")])), 13)

    def test_a_split_over_a_split(self):
        # "b" is 1 + (1 + (1 + 1)) = 4, with a port of "t", a port of "s" and a count; "c" is 4, too.
        nodes = [count(), split("s", "a"), split("t", "s"), scale("b", "t"), scale("c", "t")]
        self.assertEqual(cells(Net(nodes)), 8)
        self.assertEqual(cells(Net([*nodes, scale("d", "s")])), 11)

    def test_a_split_over_a_join_of_a_split(self):
        # "b" is 1 + 2 * (1 + 1) = 5, "c" and "d" are 1 + (1 + 5) = 7 each.
        nodes = [count(), split("s", "a"), joined("b", "s", 2), split("t", "b"), scale("c", "t"), scale("d", "t")]
        self.assertEqual(cells(Net(nodes)), 14)
        # "e" is 1 + (1 + 1) + (1 + 5) = 9.
        self.assertEqual(cells(Net([*nodes, ("e", "turns", (), ["s", "t"])])), 23)

    def test_the_limit(self):
        self.assertEqual(measures(hundred_cells()), (100, 1, 0))
        self.assertEqual(verdict([*hundred_cells(), scale("u", "z")]), ("limit", 100))
        self.assertEqual(verdict([*hundred_cells(), count("u")]), ("limit", 100))

    def test_very_many_cells(self):
        nodes = [("a", "ring", ([1] * 100,), [])]
        for number in range(1, 14):
            letter = "abcdefghijklmnop"[number]
            nodes.append(split("s" + letter, nodes[-1][0]))
            nodes.append(joined(letter, "s" + letter, 5))
        self.assertEqual(len(nodes), 27)
        self.assertEqual(verdict(nodes), ("limit", 100))


class WeightTest(unittest.TestCase):

    def test_own_weights(self):
        for kind, parameters, wanted in (
                ("table", ([5, 5, 5],), 3), ("table", ([5],), 1), ("keep", (("mod", 7, [1]),), 7),
                ("until", (("mod", 7, [1]),), 7), ("after", (("mod", 7, [1]),), 7), ("keep", (nots(3, ("mod", 7, [])),), 7),
                ("until", (nots(2, ("mod", 100, [])),), 100), ("keep", (("below", 7),), 1), ("after", (("from", 7),), 1),
                ("until", (nots(1, ("below", 7)),), 1), ("stutter", (9,), 9), ("stutter", (1,), 1),
                ("batch", (9, "sum", "give"), 9), ("batch", (9, "sum", "lose"), 9), ("batch", (9, "first", "give"), 1),
                ("batch", (9, "last", "give"), 1), ("batch", (FAR, "many", "give"), 1), ("scale", (9, 9), 1),
                ("take", (9,), 1), ("drop", (9,), 1), ("step", (9,), 1), ("pairs", (), 1), ("heads", (), 1),
                ("lengths", (), 1), ("ahead", (9,), 1), ("fault", (9, "a"), 1), ("dying", (), 1), ("calm", ("skip",), 1),
                ("closing", ("a",), 1), ("chain", (), 1), ("zip", ("sum",), 1), ("longest", (9, "sum"), 1),
                ("turns", (), 1)):
            with self.subTest(kind, parameters=parameters):
                self.assertEqual(weight(Net([count(), ("z", kind, parameters, ["a"])])), wanted)

    def test_sources(self):
        for kind, parameters, wanted in (("count", (9, 9), 1), ("span", (9, 9, 9), 1), ("ring", ([5, 5, 5],), 3),
                                         ("ring", ([5] * 100,), 100), ("row", ([5, 5, 5],), 1), ("row", ([],), 1)):
            with self.subTest(kind):
                self.assertEqual(weight(Net([("a", kind, parameters, [])])), wanted)

    def test_turns_and_choose(self):
        lower = [count(name) for name in "abcd"]
        for kind, wanted in (("turns", 4), ("choose", 3), ("chain", 1)):
            self.assertEqual(weight(Net([*lower, ("z", kind, (), list("abcd"))])), wanted)
        lower = [count(), split("s", "a")]
        for kind, wanted in (("turns", 5), ("choose", 4), ("chain", 1)):
            self.assertEqual(weight(Net([*lower, ("z", kind, (), ["s"] * 5)])), wanted)

    def test_products_over_outlets(self):
        self.assertEqual(weight(Net([*rings(2, 3), ("z", "stutter", (5,), ["rb"])])), 30)

    def test_copies_for_each_port(self):
        lower = [*rings(3), split("s", "ra")]
        self.assertEqual(weight(Net([*lower, scale("b", "s")])), 3)
        self.assertEqual(weight(Net([*lower, scale("b", "s"), ("c", "stutter", (2,), ["s"])])), 18)
        self.assertEqual(weight(Net([*lower, joined("b", "s", 4)])), 81)
        # "b" weighs 2 * 2 * 2 = 8, and so does "c"; "d" weighs 3 * 8 over "t" and 3 * 2 over "s".
        nodes = [*rings(2), split("s", "ra"), ("b", "turns", (), ["s", "s"]), split("t", "b"), scale("c", "t")]
        self.assertEqual(weight(Net(nodes)), 8)
        self.assertEqual(weight(Net([*nodes, ("d", "stutter", (3,), ["t"])])), 192)
        self.assertEqual(weight(Net([*nodes, ("d", "stutter", (3,), ["s"])])), 48)

    def test_the_limit(self):
        self.assertEqual(measures(rings(100, 2)), (2, 200, 0))
        self.assertEqual(measures(rings(20, 10)), (2, 200, 0))
        self.assertEqual(verdict(rings(67, 3)), ("limit", 200))
        self.assertEqual(verdict(rings(100, 100, 100, 100, 100)), ("limit", 200))
        self.assertEqual(verdict([*rings(15), split("s", "ra"), scale("b", "s"), scale("c", "s")]), ("limit", 200))
        self.assertEqual(measures([*rings(14), split("s", "ra"), scale("b", "s"), scale("c", "s")]), (6, 196, 0))


class LoopsTest(unittest.TestCase):

    def test_kinds(self):
        for kind, parameters, wanted in (
                ("keep", (("below", 1),), 1), ("after", (("below", 1),), 1), ("drop", (1,), 1), ("step", (1,), 1),
                ("batch", (1, "first", "give"), 1), ("heads", (), 1), ("lengths", (), 1), ("scale", (1, 0), 0),
                ("table", ([1],), 0), ("until", (("below", 1),), 0), ("take", (1,), 0), ("pairs", (), 0), ("stutter", (1,), 0),
                ("ahead", (1,), 0), ("fault", (1, "a"), 0), ("dying", (), 0), ("calm", ("skip",), 0), ("calm", ("stop",), 0),
                ("closing", ("a",), 0), ("chain", (), 0), ("zip", ("sum",), 0), ("longest", (0, "sum"), 0), ("turns", (), 0)):
            with self.subTest(kind):
                self.assertEqual(loops(Net([count(), ("z", kind, parameters, ["a"])])), wanted)
        for kind, parameters in (("count", (0, 1)), ("span", (0, 1, 2)), ("ring", ([1],)), ("row", ([],))):
            self.assertEqual(loops(Net([("a", kind, parameters, [])])), 0)
        self.assertEqual(loops(Net([count(), count("b"), ("z", "choose", (), ["a", "b"])])), 0)

    def test_ways(self):
        self.assertEqual(loops(Net(chain_of([("drop", (1,)), ("scale", (1, 0)), ("heads", ()), ("take", (1,)), ("lengths", ())]))), 3)
        # The greatest number on one way, not over all outlets or inputs.
        lower = [count(), count("b"), ("c", "drop", (1,), ["a"]), ("d", "heads", (), ["c"]), ("e", "step", (2,), ["b"])]
        self.assertEqual(loops(Net(lower)), 2)
        self.assertEqual(loops(Net([*lower, ("z", "chain", (), ["e", "d"])])), 2)
        self.assertEqual(loops(Net([*lower, ("z", "chain", (), ["d", "e"]), ("y", "heads", (), ["z"])])), 3)

    def test_below_splits(self):
        nodes = [count(), ("b", "drop", (1,), ["a"]), split("s", "b"), ("c", "heads", (), ["s"]), scale("d", "s")]
        self.assertEqual(loops(Net(nodes)), 2)
        nodes = [count(), ("b", "drop", (1,), ["a"]), split("s", "b"), ("c", "heads", (), ["s"]), ("d", "zip", ("sum",), ["s", "c"]),
                 split("t", "d"), ("e", "heads", (), ["t"]), ("f", "choose", (), ["t", "s"])]
        # "c" is 1 + 3 = 4, "d" 1 + 3 + 4 = 8, "e" 1 + 9 = 10, "f" 1 + 9 + 3 = 13.
        self.assertEqual(measures(nodes), (23, 1, 3))


class LoadTest(unittest.TestCase):

    def test_load(self):
        self.assertEqual(load(Net([count()]), 1), 5)
        self.assertEqual(load(Net(chain_of([("drop", (1,)), ("keep", (("mod", 2, []),))])), 1), 343)
        self.assertEqual(load(Net(chain_of([("drop", (1,)), ("keep", (("mod", 2, []),))])), 3), 16807)

    def test_the_limit(self):
        # The base of the power is odd, so the load comes next to 10000 as 9801, 9261, 6561 and 3125.
        for many, most in ((1, 48), (2, 9), (3, 3), (4, 1)):
            for weighs, wanted in ((most, "net"), (most + 1, ("limit", 10000))):
                with self.subTest(many, weighs=weighs):
                    nodes = chain_of([("table", ([1] * weighs,)), *[("drop", (1,))] * many])
                    self.assertEqual(verdict(nodes), wanted)
        self.assertEqual(verdict(chain_of([("drop", (1,))] * 5)), ("limit", 10000))
        self.assertEqual(verdict(chain_of([("table", ([1] * 100,)), ("stutter", (2,))])), "net")

    def test_ways_beside_one_another_are_no_greater_load(self):
        nodes = [count(), split("s", "a"), *[("b" * number, "drop", (1,), ["s"]) for number in range(1, 6)]]
        self.assertEqual(verdict(nodes), "net")


class OrderTest(unittest.TestCase):

    def test_cells_then_weight_then_load(self):
        many_cells = [*hundred_cells(), scale("u", "z")]
        much_weight = rings(67, 3)
        much_load = [count("la"), *[("l" * at, "drop", (1,), ["l" * (at - 1) if at > 2 else "la"]) for at in range(2, 7)]]
        self.assertEqual(verdict(many_cells), ("limit", 100))
        self.assertEqual(verdict(much_weight), ("limit", 200))
        self.assertEqual(verdict(much_load), ("limit", 10000))
        self.assertEqual(verdict([*many_cells, *much_weight]), ("limit", 100))
        self.assertEqual(verdict([*much_load, *many_cells]), ("limit", 100))
        self.assertEqual(verdict([*much_load, *much_weight]), ("limit", 200))
        self.assertEqual(verdict([*much_load, *much_weight, *many_cells]), ("limit", 100))

    def test_wrong_nodes_go_ahead_of_limits(self):
        nodes = [*hundred_cells(), scale("u", "z"), *rings(67, 3)]
        self.assertEqual(verdict([*nodes, None]), ("node", len(nodes)))
        self.assertEqual(verdict([*nodes, count("v"), split("w", "v")]), ("node", -1))


if __name__ == "__main__":
    unittest.main()
