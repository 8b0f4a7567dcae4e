"""Points [6] and [7]: the form of a node, its kind, and its parameters."""

import unittest

from makers import ANY, FAR, Claimer, count, nots, split, strange_values, verdict

ITEM_ENDS = (-FAR, 0, 1, FAR)

RIGHT = {
    "count": [(start, step) for start in ITEM_ENDS for step in ITEM_ENDS],
    "span": [(-FAR, FAR, 0), (FAR, -FAR, FAR), (0, 0, 1)],
    "ring": [([0],), ([FAR, -FAR],), ([5] * 100,)],
    "row": [([],), ([0],), ([FAR, -FAR],), ([5] * 100,)],
    "scale": [(a, b) for a in ITEM_ENDS for b in ITEM_ENDS],
    "table": [([0],), ([FAR, -FAR],), ([5] * 100,)],
    "take": [(0,), (1,), (FAR,)],
    "drop": [(0,), (1,), (FAR,)],
    "step": [(1,), (2,), (FAR,)],
    "batch": [(n, how, rest) for n in (1, 48) for how in ("first", "last", "many", "sum") for rest in ("give", "lose")]
    + [(n, how, "give") for n in (51, FAR) for how in ("first", "last", "many")],
    "pairs": [()],
    "heads": [()],
    "lengths": [()],
    "stutter": [(1,), (50,)],
    "ahead": [(0,), (20,)],
    "fault": [(0, "a"), (FAR, "abcdefghijkl"), (1, "z")],
    "dying": [()],
    "calm": [("stop",), ("skip",)],
    "closing": [("a",), ("abcdefghijkl",), ("not",)],
    "chain": [()],
    "zip": [("first",), ("last",), ("sum",)],
    "longest": [(fill, how) for fill in ITEM_ENDS for how in ("first", "last", "sum")],
    "turns": [()],
    "choose": [()],
}

TESTS = [("below", -FAR), ("below", FAR), ("from", -FAR), ("from", FAR), ("mod", 1, []), ("mod", 1, [0]),
         ("mod", 48, list(range(48))), nots(3, ("mod", 48, [0, 47])), nots(3, ("below", 0))]

WRONG_TESTS = [("below", FAR + 1), ("from", -FAR - 1), ("below", True), ("mod", 0, []), ("mod", 101, []), ("mod", 5, [5]),
               ("mod", 5, [-1]), ("mod", 5, [2, 1]), ("mod", 5, [1, 1]), ("mod", 5, (1,)), ("mod", True, []),
               ("mod", 2, [True]), ["below", 1], nots(4, ("below", 0)), ("under", 1), None, 5, "below", ("below",)]

WRONG_WHOLES = [True, False, None, "1", [1], (1,), {}, {1: 1}, {1}, Claimer(), ANY, object(), FAR + 1, -FAR - 1]

WRONG_WORDS = [None, 1, True, "", "First", "most", ["first"], ("first",), b"first", Claimer(), ANY, {}, "give ", "name"]

WRONG_NAMES = [None, 1, True, "", "A", "a1", "a b", "abcdefghijklm", ["a"], ("a",), b"a", Claimer(), ANY, {}]

WRONG_LISTS = [None, 1, "1", (1,), (), {1: 1}, {}, range(3), [True], [1, False], [None], ["1"], [[1]], [(1,)], [FAR + 1],
               [1, -FAR - 1], [5] * 101, [Claimer()], Claimer(), ANY, [ANY]]

WRONG = {
    "count": [(x, 1) for x in WRONG_WHOLES] + [(1, x) for x in WRONG_WHOLES] + [(), (1,), (1, 1, 1)],
    "span": [(x, 1, 1) for x in WRONG_WHOLES] + [(1, x, 1) for x in WRONG_WHOLES]
    + [(1, 1, x) for x in [*WRONG_WHOLES, -1]] + [(), (1, 1), (1, 1, 1, 1)],
    "ring": [(x,) for x in [*WRONG_LISTS, []]] + [(), ([1], [1]), (1, 2)],
    "row": [(x,) for x in WRONG_LISTS] + [(), ([1], [1]), (1, 2)],
    "scale": [(x, 1) for x in WRONG_WHOLES] + [(1, x) for x in WRONG_WHOLES] + [(), (1,), (1, 1, 1)],
    "table": [(x,) for x in [*WRONG_LISTS, []]] + [(), ([1], [1]), (1, 2)],
    "keep": [(x,) for x in WRONG_TESTS] + [(), (("below", 1), ("below", 1)), ("below", 1)],
    "until": [(x,) for x in WRONG_TESTS] + [(), (("below", 1), ("below", 1)), ("below", 1)],
    "after": [(x,) for x in WRONG_TESTS] + [(), (("below", 1), ("below", 1)), ("below", 1)],
    "take": [(x,) for x in [*WRONG_WHOLES, -1]] + [(), (1, 1)],
    "drop": [(x,) for x in [*WRONG_WHOLES, -1]] + [(), (1, 1)],
    "step": [(x,) for x in [*WRONG_WHOLES, -1, 0]] + [(), (1, 1)],
    "batch": [(x, "first", "give") for x in [*WRONG_WHOLES, -1, 0]] + [(1, x, "give") for x in [*WRONG_WORDS, "give"]]
    + [(1, "first", x) for x in [*WRONG_WORDS, "first"]] + [(51, "sum", "give"), (51, "sum", "lose"), (FAR, "sum", "give")]
    + [(x, "sum", "give") for x in [*WRONG_WHOLES, -1, 0]]
    + [(), (1,), (1, "first"), (1, "first", "give", 1), (1, "give", "first")],
    "pairs": [(1,), ("a",), ([],)],
    "heads": [(1,), ("a",), ([],)],
    "lengths": [(1,), ("a",), ([],)],
    "stutter": [(x,) for x in [*WRONG_WHOLES, -1, 0, 51]] + [(), (1, 1)],
    "ahead": [(x,) for x in [*WRONG_WHOLES, -1, 21]] + [(), (1, 1)],
    "fault": [(x, "a") for x in [*WRONG_WHOLES, -1]] + [(1, x) for x in WRONG_NAMES] + [(), (1,), (1, "a", 1), ("a", 1)],
    "dying": [(1,), ("a",), ([],)],
    "calm": [(x,) for x in [*WRONG_WORDS, "first"]] + [(), ("stop", "skip")],
    "closing": [(x,) for x in WRONG_NAMES] + [(), ("a", "a")],
    "split": [(1,), ("a",), ([],)],
    "chain": [(1,), ("a",), ([],)],
    "zip": [(x,) for x in [*WRONG_WORDS, "many"]] + [(), ("first", "first")],
    "longest": [(x, "first") for x in WRONG_WHOLES] + [(1, x) for x in [*WRONG_WORDS, "many"]]
    + [(), (1,), ("first", 1), (1, "first", 1)],
    "turns": [(1,), ("a",), ([],)],
    "choose": [(1,), ("a",), ([],)],
}

SOURCES = ("count", "span", "ring", "row")


def with_lower(kind, parameters):
    """Return nodes whose last one has a kind and parameters, and a right number of inputs."""
    if kind in SOURCES:
        return [("z", kind, parameters, [])]
    if kind == "choose":
        return [count("a"), count("b"), ("z", kind, parameters, ["a", "b"])]
    return [count("a"), ("z", kind, parameters, ["a"])]


class ParameterTest(unittest.TestCase):

    def test_right_parameters(self):
        for kind, rows in RIGHT.items():
            for parameters in rows:
                with self.subTest(kind, parameters=parameters):
                    self.assertEqual(verdict(with_lower(kind, parameters)), "net")

    def test_right_tests(self):
        for kind in ("keep", "until", "after"):
            for test in TESTS:
                with self.subTest(kind, test=test):
                    self.assertEqual(verdict(with_lower(kind, (test,))), "net")

    def test_right_parameters_above_the_load(self):
        # These are right for a node: it is only the load, 103 ** 2 or 203 ** 2, that is too great.
        for rest in ("give", "lose"):
            self.assertEqual(verdict(with_lower("batch", (50, "sum", rest))), ("limit", 10000))
        for kind in ("keep", "after"):
            self.assertEqual(verdict(with_lower(kind, (("mod", 100, list(range(100))),))), ("limit", 10000))
        self.assertEqual(verdict(with_lower("until", (("mod", 100, list(range(100))),))), "net")
        self.assertEqual(verdict(with_lower("until", (("mod", 100, []),))), "net")

    def test_a_split(self):
        self.assertEqual(verdict([count(), split("s", "a"), ("z", "pairs", (), ["s"])]), "net")

    def test_every_kind_is_tried(self):
        self.assertEqual(len(WRONG), 28)
        self.assertEqual(sorted([*RIGHT, "keep", "until", "after", "split"]), sorted(WRONG))

    def test_wrong_parameters(self):
        for kind, rows in WRONG.items():
            for parameters in rows:
                with self.subTest(kind, parameters=repr(parameters)):
                    nodes = with_lower(kind, parameters)
                    self.assertEqual(verdict(nodes), ("node", len(nodes) - 1))

    def test_parameters_that_are_no_tuple(self):
        for kind in WRONG:
            right = (RIGHT.get(kind) or ([(("below", 1),)] if kind != "split" else [()]))[0]
            for parameters in [list(right), *[value for value in strange_values() if not isinstance(value, tuple)]]:
                with self.subTest(kind, parameters=repr(parameters)):
                    nodes = with_lower(kind, parameters)
                    self.assertEqual(verdict(nodes), ("node", len(nodes) - 1))


class FormTest(unittest.TestCase):

    def test_names(self):
        for name in ("a", "z", "abcdefghijkl", "count", "of"):
            self.assertEqual(verdict([(name, "count", (0, 1), [])]), "net")
        for name in [*strange_values(), *WRONG_NAMES]:
            with self.subTest(repr(name)):
                self.assertEqual(verdict([(name, "count", (0, 1), [])]), ("node", 0))

    def test_kinds(self):
        for kind in [*strange_values(), "counts", "Count", "count ", "", "map", ["count"], ("count",), b"count", "kind"]:
            for parameters in ((), (0, 1), (1,), ([1],)):
                with self.subTest(repr(kind), parameters=parameters):
                    self.assertEqual(verdict([("a", kind, parameters, [])]), ("node", 0))

    def test_what_is_no_node(self):
        wrong = [["a", "count", (0, 1), []], ("a", "count", (0, 1)), ("a", "count", (0, 1), [], []), "a", ("a",),
                 ("count", "a", (0, 1), []), ("a", "count", [], (0, 1)), ("a", (0, 1), "count", []), [], {}]
        for node in [*strange_values(), *wrong]:
            with self.subTest(repr(node)):
                self.assertEqual(verdict([node]), ("node", 0))
                self.assertEqual(verdict([count("b"), node, node]), ("node", 1))

    def test_inputs_that_are_no_list(self):
        for inputs in [(), ("a",), "a", None, {}, {"a": 1}, {"a"}, Claimer(), ANY, 0, ["a", "b"], [], [["a"]], [None],
                       [Claimer()], [ANY], [("a",)], [{}], [b"a"], [True]]:
            with self.subTest(repr(inputs)):
                self.assertEqual(verdict([count("a"), count("b"), ("z", "pairs", (), inputs)]), ("node", 2))
        for inputs in [(), None, "", {}, False, 0, Claimer(), ANY, ["a"], [None]]:
            with self.subTest(repr(inputs)):
                self.assertEqual(verdict([count("a"), ("z", "count", (0, 1), inputs)]), ("node", 1))

    def test_what_is_no_list_of_nodes(self):
        for nodes in [value for value in strange_values() if not isinstance(value, list)]:
            with self.subTest(repr(nodes)):
                self.assertEqual(verdict(nodes), ("node", -1))
        self.assertEqual(verdict(()), ("node", -1))
        self.assertEqual(verdict((count(),)), ("node", -1))
        self.assertEqual(verdict({0: count()}), ("node", -1))
        self.assertEqual(verdict(count()), ("node", -1))

    def test_lengths_of_the_list(self):
        names = [one + other for one in "abcdef" for other in "abcdef"]
        self.assertEqual(verdict([]), ("node", -1))
        self.assertEqual(verdict([count()]), "net")
        self.assertEqual(verdict([count(name) for name in names[:30]]), "net")
        self.assertEqual(verdict([count(name) for name in names[:31]]), ("node", -1))
        self.assertEqual(verdict([None] * 30), ("node", 0))
        self.assertEqual(verdict([None] * 31), ("node", -1))

    def test_lists_that_contain_themselves(self):
        ring = []
        ring.append(ring)
        self.assertEqual(verdict(ring), ("node", 0))
        self.assertEqual(verdict([("a", "ring", (ring,), [])]), ("node", 0))
        self.assertEqual(verdict([count(), ("b", "pairs", (), ring)]), ("node", 1))
        self.assertEqual(verdict([count(), ("b", "keep", (("mod", 3, ring),), ["a"])]), ("node", 1))

    def test_a_test_that_nests_very_deep(self):
        self.assertEqual(verdict([count(), ("b", "keep", (nots(100000, ("below", 1)),), ["a"])]), ("node", 1))


if __name__ == "__main__":
    unittest.main()
