"""Points [6] and [7]: the inputs of a node, and which wrong item comes first."""

import unittest

from makers import Claimer, count, scale, split, verdict

NONE = [("count", (0, 1)), ("span", (0, 1, 5)), ("ring", ([1],)), ("row", ([],))]

ONE = [("scale", (1, 0)), ("table", ([1],)), ("keep", (("below", 1),)), ("until", (("below", 1),)),
       ("after", (("below", 1),)), ("take", (1,)), ("drop", (1,)), ("step", (1,)), ("batch", (1, "sum", "give")),
       ("pairs", ()), ("heads", ()), ("lengths", ()), ("stutter", (1,)), ("ahead", (1,)), ("fault", (1, "a")),
       ("dying", ()), ("calm", ("stop",)), ("closing", ("a",))]

SEVERAL = [("chain", ()), ("zip", ("sum",)), ("longest", (0, "sum")), ("turns", ()), ("choose", ())]

NAMES = list("abcdefghijkl")


def over(kind, parameters, many):
    """Return so many counts and a node that reads them all."""
    return [*[count(name) for name in NAMES[:many]], ("z", kind, parameters, NAMES[:many])]


class NumberTest(unittest.TestCase):

    def test_sources(self):
        for kind, parameters in NONE:
            with self.subTest(kind):
                self.assertEqual(verdict(over(kind, parameters, 0)), "net")
                self.assertEqual(verdict(over(kind, parameters, 1)), ("node", 1))

    def test_one_input(self):
        for kind, parameters in ONE:
            with self.subTest(kind):
                self.assertEqual(verdict(over(kind, parameters, 0)), ("node", 0))
                self.assertEqual(verdict(over(kind, parameters, 1)), "net")
                self.assertEqual(verdict(over(kind, parameters, 2)), ("node", 2))

    def test_a_split_has_one_input(self):
        self.assertEqual(verdict(over("split", (), 0)), ("node", 0))
        self.assertEqual(verdict([count(), split("s", "a"), scale("z", "s")]), "net")
        self.assertEqual(verdict(over("split", (), 2)), ("node", 2))

    def test_several_inputs(self):
        for kind, parameters in SEVERAL:
            with self.subTest(kind):
                self.assertEqual(verdict(over(kind, parameters, 0)), ("node", 0))
                self.assertEqual(verdict(over(kind, parameters, 1)), ("node", 1) if kind == "choose" else "net")
                self.assertEqual(verdict(over(kind, parameters, 2)), "net")
                self.assertEqual(verdict(over(kind, parameters, 10)), "net")
                self.assertEqual(verdict(over(kind, parameters, 11)), ("node", 11))


class NameTest(unittest.TestCase):

    def test_names_of_no_node(self):
        self.assertEqual(verdict([count(), scale("z", "b")]), ("node", 1))
        self.assertEqual(verdict([count(), ("z", "chain", (), ["a", "b"])]), ("node", 1))
        self.assertEqual(verdict([scale("z", "a"), count("b")]), ("node", 0))

    def test_names_of_later_nodes_and_its_own(self):
        self.assertEqual(verdict([scale("z", "a"), count()]), ("node", 0))
        self.assertEqual(verdict([count(), scale("y", "z"), scale("z", "a")]), ("node", 1))
        self.assertEqual(verdict([count(), scale("z", "z")]), ("node", 1))
        self.assertEqual(verdict([count(), split("s", "s")]), ("node", 1))
        self.assertEqual(verdict([count(), ("z", "chain", (), ["a", "z"])]), ("node", 1))

    def test_a_name_that_occurred_before(self):
        self.assertEqual(verdict([count(), count()]), ("node", 1))
        self.assertEqual(verdict([count(), count("b"), scale("a", "b")]), ("node", 2))
        self.assertEqual(verdict([count(), scale("a", "a")]), ("node", 1))
        self.assertEqual(verdict([count(), split("s", "a"), scale("x", "s"), split("s", "x")]), ("node", 3))

    def test_an_input_that_is_used_already(self):
        self.assertEqual(verdict([count(), scale("y", "a"), scale("z", "a")]), ("node", 2))
        self.assertEqual(verdict([count(), scale("y", "a"), scale("z", "y"), scale("x", "y")]), ("node", 3))
        self.assertEqual(verdict([count(), scale("y", "a"), count("b"), ("z", "zip", ("sum",), ["b", "a"])]), ("node", 3))
        self.assertEqual(verdict([count(), split("s", "a"), split("t", "a"), scale("y", "s"), scale("z", "t")]), ("node", 2))

    def test_an_input_that_is_used_twice_by_one_node(self):
        for kind, parameters in SEVERAL:
            with self.subTest(kind):
                self.assertEqual(verdict([count(), (kind, kind, parameters, ["a", "a"])]), ("node", 1))
                self.assertEqual(verdict([count(), count("b"), (kind, kind, parameters, ["a", "b", "a"])]), ("node", 2))

    def test_what_is_no_name_behind_right_ones(self):
        for wrong in (None, 1, True, "", "A", ["a"], ("a",), {}, b"a", Claimer()):
            with self.subTest(repr(wrong)):
                self.assertEqual(verdict([count(), count("b"), ("z", "chain", (), ["a", wrong])]), ("node", 2))
                self.assertEqual(verdict([count(), count("b"), ("z", "chain", (), [wrong, "a"])]), ("node", 2))


class SplitTest(unittest.TestCase):

    def test_five_uses_and_six(self):
        nodes = [count(), split("s", "a"), *[scale(name, "s") for name in "bcdef"]]
        self.assertEqual(verdict(nodes), "net")
        self.assertEqual(verdict([*nodes, scale("g", "s")]), ("node", 7))
        self.assertEqual(verdict([*nodes, count("g"), ("h", "chain", (), ["g", "s"])]), ("node", 8))

    def test_five_uses_and_six_by_one_node(self):
        for kind, parameters in SEVERAL:
            with self.subTest(kind):
                self.assertEqual(verdict([count(), split("s", "a"), ("z", kind, parameters, ["s"] * 5)]), "net")
                self.assertEqual(verdict([count(), split("s", "a"), ("z", kind, parameters, ["s"] * 6)]), ("node", 2))

    def test_uses_by_one_node_and_by_others(self):
        nodes = [count(), split("s", "a"), ("y", "chain", (), ["s"] * 3), scale("x", "s")]
        self.assertEqual(verdict(nodes), "net")
        self.assertEqual(verdict([*nodes, scale("z", "s")]), "net")
        self.assertEqual(verdict([*nodes, ("z", "chain", (), ["s", "s"])]), ("node", 4))
        self.assertEqual(verdict([*nodes, scale("w", "s"), scale("z", "s")]), ("node", 5))

    def test_each_split_counts_alone(self):
        nodes = [count(), split("s", "a"), ("y", "chain", (), ["s"] * 5),
                 count("b"), split("t", "b"), ("z", "chain", (), ["t"] * 5)]
        self.assertEqual(verdict(nodes), "net")

    def test_a_split_that_is_no_input(self):
        self.assertEqual(verdict([count(), split("s", "a")]), ("node", -1))
        self.assertEqual(verdict([count(), split("s", "a"), count("b"), scale("c", "b")]), ("node", -1))
        self.assertEqual(verdict([count(), split("s", "a"), split("t", "s")]), ("node", -1))
        self.assertEqual(verdict([count(), split("s", "a"), split("t", "s"), scale("b", "s")]), ("node", -1))
        self.assertEqual(verdict([count(), split("s", "a"), split("t", "s"), scale("b", "t")]), "net")

    def test_a_wrong_item_goes_ahead_of_a_split_that_is_no_input(self):
        self.assertEqual(verdict([count(), split("s", "a"), None]), ("node", 2))
        self.assertEqual(verdict([count(), split("s", "a"), count("a")]), ("node", 2))
        self.assertEqual(verdict([count(), split("s", "a"), scale("b", "c")]), ("node", 2))


class FirstTest(unittest.TestCase):

    def test_the_first_wrong_item(self):
        wrong = [None, count(), scale("z", "q"), scale("z", "a"), ("z", "take", (-1,), ["a"]), ("z", "zip", ("sum",), ["b"] * 2)]
        nodes = [count(), scale("b", "a")]
        for first in wrong:
            for second in wrong:
                with self.subTest(repr(first), second=repr(second)):
                    self.assertEqual(verdict([*nodes, first, second]), ("node", 2))
                    self.assertEqual(verdict([*nodes, count("c"), first, count("d"), second]), ("node", 3))

    def test_an_item_is_not_wrong_for_what_comes_behind_it(self):
        self.assertEqual(verdict([count(), scale("b", "a"), scale("c", "a"), None]), ("node", 2))
        self.assertEqual(verdict([count(), count("b"), count("c"), count("a")]), ("node", 3))


if __name__ == "__main__":
    unittest.main()
