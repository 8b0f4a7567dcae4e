"""Points [49] to [52]: differences and agreements, by hand, by formulas, and against the plain machine."""

import random
import unittest

from drawing import drawn_net, parameters_of, splitting_net
from makers import FAR, tower
from plain import PlainMachine

from pullworks.comparing import agreements, first_difference, first_read_difference, same_results
from pullworks.errors import InvalidNet, LimitExceeded
from pullworks.items import item_at
from pullworks.nets import Net, outlets

SOURCES = ("count", "span", "ring", "row")

COUNT = ("count", (0, 1))


def one():
    return Net([("a", "count", (0, 1), []), ("k", "keep", (("mod", 2, [0]),), ["a"]), ("z", "scale", (3, 0), ["k"])])


def other():
    return Net([("a", "count", (0, 1), []), ("z", "scale", (3, 0), ["a"]), ("k", "keep", (("mod", 2, [0]),), ["z"])])


class HandTest(unittest.TestCase):

    def test_the_examples(self):
        plain = Net([("a", "count", (0, 2), []), ("z", "scale", (3, 0), ["a"])])
        self.assertIs(first_difference(one(), "z", other(), "k"), None)
        self.assertIs(first_read_difference(one(), "z", other(), "k", "a"), None)
        self.assertEqual(first_read_difference(one(), "z", plain, "z", "a"), 1)
        self.assertIs(first_difference(one(), "z", plain, "z"), None)
        self.assertEqual(agreements(one(), "z", Net([("b", "count", (0, 3), [])]), "b", 10), 1)
        self.assertIs(same_results(one(), other()), False)
        self.assertIs(same_results(one(), plain), True)

    def test_far_differences(self):
        low, high = tower(("span", (0, 1, FAR)))[0], tower(("span", (0, 1, FAR - 7)))[0]
        self.assertEqual(first_difference(low, "a", high, "a"), FAR - 7)
        self.assertEqual(first_difference(low, "a", high, "a", first=FAR - 3), FAR - 3)
        self.assertIs(first_difference(low, "a", high, "a", first=FAR), None)
        self.assertEqual(agreements(low, "a", high, "a", FAR), FAR - 7)
        self.assertEqual(first_read_difference(low, "a", high, "a", "a"), FAR - 6)
        faults = [tower(COUNT, ("fault", (10 ** 29, word)))[0] for word in ("net", "nets")]
        self.assertEqual(first_difference(faults[0], "b", faults[1], "b"), 10 ** 29)
        self.assertIs(first_difference(faults[0], "b", faults[1], "b", first=10 ** 29 + 1), None)
        self.assertEqual(agreements(faults[0], "b", faults[1], "b", FAR), FAR - 1)
        self.assertEqual(first_difference(faults[0], "b", tower(COUNT)[0], "a", first=10 ** 29 + 5), 10 ** 29 + 5)
        wide = [tower(COUNT, ("step", (FAR,)))[0], tower(COUNT, ("step", (FAR - 1,)))[0]]
        self.assertEqual(first_difference(wide[0], "b", wide[1], "b"), 1)
        drops = [tower(COUNT, ("drop", (many,)))[0] for many in (FAR, FAR - 1)]
        self.assertEqual(first_read_difference(drops[0], "b", drops[1], "b", "a"), 0)

    def test_one_agreement_of_lines_that_cross(self):
        up, down = tower(("count", (-10 ** 25, 3)))[0], tower(("count", (2 * 10 ** 25, -3)))[0]
        self.assertEqual(agreements(up, "a", down, "a", FAR), 1)
        self.assertEqual([agreements(up, "a", down, "a", 5 * 10 ** 24 + more) for more in (0, 1)], [0, 1])
        self.assertEqual(agreements(up, "a", tower(("count", (2 * 10 ** 25 + 1, -3)))[0], "a", FAR), 0)
        rings = [tower(("ring", (items,)))[0] for items in ([1, 2, 3], [1, 2])]
        self.assertEqual(first_difference(rings[0], "a", rings[1], "a"), 2)
        self.assertEqual(agreements(rings[0], "a", rings[1], "a", 6 * 10 ** 20 + 2), 2 * 10 ** 20 + 2)
        self.assertEqual([first_difference(rings[0], "a", rings[1], "a", first=at) for at in range(8)],
                         [2, 2, 2, 3, 4, 5, 8, 8])

    def test_ends_agree(self):
        row = tower(("row", ([1, 2],)))[0]
        self.assertEqual(agreements(row, "a", row, "a", FAR), FAR)
        self.assertEqual(agreements(row, "a", tower(("row", ([1],)))[0], "a", FAR), FAR - 1)
        self.assertIs(first_difference(row, "a", tower(("row", ([1],)))[0], "a", first=2), None)
        self.assertEqual(agreements(row, "a", tower(("row", ([],)))[0], "a", 0), 0)

    def test_pulls_that_are_never_answered(self):
        blind = [tower(COUNT, ("keep", (("below", bound),)))[0] for bound in (5, 5, 7)]
        self.assertIs(first_difference(blind[0], "b", blind[1], "b"), None)
        self.assertIs(first_difference(blind[0], "b", blind[1], "b", first=5), None)
        self.assertEqual(first_difference(blind[0], "b", blind[2], "b"), 5)
        self.assertEqual(first_difference(blind[2], "b", blind[0], "b", first=5), 5)
        self.assertIs(first_difference(blind[0], "b", blind[2], "b", first=6), None)
        self.assertEqual(agreements(blind[0], "b", blind[2], "b", FAR), 5)
        self.assertEqual(agreements(blind[0], "b", blind[1], "b", FAR), 5)
        # Another node that goes on is no difference.
        named = Net([("a", "count", (0, 1), []), ("x", "until", (("below", 5),), ["a"]), ("b", "heads", (), ["x"])])
        self.assertEqual(first_difference(blind[0], "b", named, "b"), 5)
        same = Net([("a", "count", (0, 1), []), ("x", "keep", (("below", 5),), ["a"]), ("b", "scale", (1, 0), ["x"])])
        self.assertIs(first_difference(blind[0], "b", same, "b"), None)
        self.assertIs(same_results(blind[0], same), True)
        self.assertIs(first_read_difference(blind[0], "b", blind[2], "b", "a"), None)
        none = tower(COUNT, ("keep", (("mod", 1, []),)))[0]
        self.assertIs(first_read_difference(none, "b", tower(COUNT, ("scale", (1, 0)))[0], "b", "a"), None)
        self.assertEqual(first_difference(none, "b", tower(COUNT, ("scale", (1, 0)))[0], "b"), 0)

    def test_sources_that_are_not_read(self):
        nodes = [*one().node_list(), ("x", "count", (0, 1), []), ("y", "row", ([1, 2],), [])]
        self.assertIs(first_read_difference(Net(nodes), "z", Net(nodes), "z", "x"), None)
        self.assertEqual(first_read_difference(Net(nodes), "z", Net(nodes), "x", "x"), 0)
        self.assertEqual(first_read_difference(Net(nodes), "y", Net(nodes), "x", "y"), 0)
        self.assertEqual(first_read_difference(Net(nodes), "y", Net(nodes), "y", "y"), None)

    def test_outlets_in_another_order(self):
        nodes = [("a", "count", (0, 1), []), ("b", "row", ([1, 2],), [])]
        self.assertIs(same_results(Net(nodes), Net(nodes[::-1])), True)
        self.assertIs(same_results(Net(nodes), Net([nodes[0], ("b", "row", ([1],), [])])), False)
        self.assertIs(same_results(Net(nodes), Net(nodes[:1])), False)
        self.assertIs(same_results(Net(nodes), Net([*nodes, ("c", "row", ([],), [])])), False)


class DrawnTest(unittest.TestCase):

    def mutated(self, draw, net):
        """Return the net with other parameters of one node."""
        while True:
            nodes = net.node_list()
            at = draw.randrange(len(nodes))
            name, kind, parameters, inputs = nodes[at]
            nodes[at] = (name, kind, parameters_of(draw, kind), inputs)
            try:
                return Net(nodes)
            except (InvalidNet, LimitExceeded):
                continue

    def pairs(self, seeds):
        """Yield (where, one net, outlet, other net, place) within the limits."""
        for seed in seeds:
            draw = random.Random(seed)
            low = splitting_net(draw) if draw.random() < 0.2 else drawn_net(draw, 7)
            high = self.mutated(draw, low) if draw.random() < 0.8 else drawn_net(draw, 5)
            outlet = draw.choice(outlets(low))
            place = outlet if outlet in outlets(high) else draw.choice(outlets(high))
            try:
                same_results(low, high)
            except LimitExceeded:
                continue
            yield (seed, low.node_list(), high.node_list(), outlet, place), low, outlet, high, place

    def pulled(self, low, outlet, high, place, many):
        """Return the results of both, up to a pull that is never answered, and the reads of common sources behind them."""
        plains = [PlainMachine(low.node_list(), 500), PlainMachine(high.node_list(), 500)]
        names = [{node[0] for node in net.node_list() if node[1] in SOURCES} for net in (low, high)]
        results, reads = [], []
        for _ in range(many):
            results.append((plains[0].pull(outlet), plains[1].pull(place)))
            if "never" in (results[-1][0][0], results[-1][1][0]):
                break
            reads.append({name: (plains[0].reads(name), plains[1].reads(name)) for name in names[0] & names[1]})
        return results, reads

    def test_against_the_plain_machine(self):
        counts = {"first": 0, "read": 0, "never": 0}
        for where, low, outlet, high, place in self.pairs(range(1500)):
            results, reads = self.pulled(low, outlet, high, place, 50)
            stuck = len(reads) < len(results)
            counts["never"] += stuck
            unlike = [at for at, (left, right) in enumerate(results) if left != right and (left[0], right[0]) != ("never",) * 2]
            for first in (0, 1, where[0] % 40):
                found = first_difference(low, outlet, high, place, first=first)
                wanted = next((at for at in unlike if at >= first), None)
                self.assertTrue(found == wanted or wanted is None and not stuck and found >= 50, (where, first, found, wanted))
                counts["first"] += wanted is not None and wanted > 3
            for many in (0, 1, where[0] % 50, 50):
                wanted = sum(left == right and left[0] != "never" for left, right in results[:many])
                self.assertEqual(agreements(low, outlet, high, place, many), wanted, (where, many))
            for source in reads[0] if reads else ():
                found = first_read_difference(low, outlet, high, place, source)
                wanted = next((at for at, row in enumerate(reads) if row[source][0] != row[source][1]), None)
                self.assertTrue(found == wanted or wanted is None and not stuck and found >= 50, (where, source, found, wanted))
                counts["read"] += wanted is not None and wanted > 3
            if set(outlets(low)) == set(outlets(high)):
                wanted = all(first_difference(low, name, high, name) is None for name in outlets(low))
                self.assertIs(same_results(low, high), wanted, where)
        self.assertGreater(min(counts.values()), 20)

    def test_the_same_from_item_at(self):
        far = 0
        for where, low, outlet, high, place in self.pairs(range(5000, 5400)):
            draw = random.Random(where[0])
            first = draw.choice((10 ** 20, 10 ** 29, 10 ** 6))
            found = first_difference(low, outlet, high, place, first=first)
            # Without errors, items and pulls have the same numbers.
            if any(node[1] == "fault" for node in low.node_list() + high.node_list()):
                continue
            answers = [(item_at(low, outlet, first + at)[:1 + (found is None)], item_at(high, place, first + at)) for at in (0, 1)]
            if found is None and answers[0][0][0] == "item" == answers[0][1][0]:
                self.assertEqual(*answers[0], where)
                self.assertEqual(*answers[1], where)
            if found is not None:
                far += 1
                self.assertNotEqual(item_at(low, outlet, found), item_at(high, place, found), where)
                self.assertEqual(agreements(low, outlet, high, place, found) - agreements(low, outlet, high, place, first),
                                 found - first, where)
        self.assertGreater(far, 50)


if __name__ == "__main__":
    unittest.main()
