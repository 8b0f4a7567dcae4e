"""Points [23] to [28]: items by number, tests of items, windows and greatest items; near, far, and beside ends."""

import random
import unittest

from drawing import drawn_net, test_of
from makers import END, FAR, item, join, tower
from plain import PlainMachine, passes

from pullworks.items import count_passing, first_passing, greatest_item, item_at, item_count, window
from pullworks.nets import Net, outlets

COUNT = ("count", (0, 1))


def short():
    """Return the net of point 8, with the items 0 and 3."""
    return tower(COUNT, ("keep", (("mod", 3, [0]),)), ("take", (2,)))[0]


def odd():
    """Return the net of stage 4, with the items 3, 6, 12, 18, 21, 27, 33 and so on."""
    return join("zip", ("sum",), [("ring", ([3, 1, 2],))], [("count", (0, 5))])


def blind():
    return tower(COUNT, ("keep", (("below", 5),)))[0]


def falling():
    """Return a net with the items 4, 1, -2, -5 and so on."""
    return tower(("count", (4, -3)))[0]


class NumbersTest(unittest.TestCase):

    def test_item_at(self):
        self.assertEqual([item_at(short(), "c", index) for index in (0, 1, 2, 3, FAR)], [item(0), item(3), END, END, END])
        self.assertEqual([item_at(odd(), "z", index) for index in range(7)], [item(x) for x in (3, 6, 12, 18, 21, 27, 33)])
        self.assertEqual(item_at(odd(), "z", FAR), item(5 * FAR + 1))
        self.assertEqual([item_at(blind(), "b", index) for index in (0, 4, 5, FAR)], [item(0), item(4), *[("never", "b")] * 2])
        self.assertEqual(item_at(tower(("row", ([],)))[0], "a", 0), END)

    def test_errors_are_passed_over(self):
        net = tower(COUNT, ("fault", (0, "net")), ("fault", (3, "net")), ("fault", (4, "disk")))[0]
        self.assertEqual([item_at(net, "d", index) for index in range(4)], [item(x) for x in range(4)])
        self.assertEqual(item_at(net, "d", FAR), item(FAR))
        self.assertEqual(window(net, "d", 1, 3), [1, 2, 3])
        self.assertEqual(count_passing(net, "d", ("below", 3), 4), (3, 4))
        self.assertEqual(greatest_item(net, "d", 3), (2, 2))
        self.assertEqual(first_passing(net, "d", ("from", 2), 0), (2, 2))
        dying = tower(COUNT, ("fault", (2, "net")), ("dying", ()))[0]
        self.assertEqual(item_count(dying, "c"), (2, END))
        self.assertEqual(item_at(dying, "c", 2), END)

    def test_item_count(self):
        self.assertEqual(item_count(short(), "c"), (2, END))
        self.assertEqual(item_count(odd(), "z"), (None, ("endless",)))
        self.assertEqual(item_count(blind(), "b"), (5, ("never", "b")))
        self.assertEqual(item_count(tower(("row", ([],)))[0], "a"), (0, END))
        self.assertEqual(item_count(tower(("span", (0, 1, FAR)), ("stutter", (50,)))[0], "b"), (50 * FAR, END))
        self.assertEqual(item_count(tower(("ring", ([7],)), ("lengths", ()))[0], "b"), (0, ("never", "b")))
        self.assertEqual(item_count(tower(("count", (FAR, -1)), ("keep", (("from", -FAR),)))[0], "b"),
                         (2 * FAR + 1, ("never", "b")))

    def test_first_passing(self):
        self.assertEqual(first_passing(odd(), "z", ("from", 10 ** 20), 0), (2 * 10 ** 19, 10 ** 20 + 2))
        self.assertEqual(first_passing(odd(), "z", ("mod", 5, [1]), 0), (1, 6))
        self.assertEqual(first_passing(odd(), "z", ("mod", 5, [1]), 2), (4, 21))
        self.assertEqual(first_passing(odd(), "z", ("not", ("from", 4)), 0), (0, 3))
        self.assertIs(first_passing(odd(), "z", ("below", 4), 1), None)
        self.assertIs(first_passing(odd(), "z", ("mod", 5, [0, 4]), 0), None)
        self.assertEqual(first_passing(short(), "c", ("from", 1), 0), (1, 3))
        for start, wanted in ((0, (0, 0)), (1, (1, 3)), (2, None), (FAR, None)):
            self.assertEqual(first_passing(short(), "c", ("mod", 3, [0]), start), wanted)
        self.assertEqual(first_passing(blind(), "b", ("from", 4), 0), (4, 4))
        self.assertIs(first_passing(blind(), "b", ("from", 5), 0), None)

    def test_first_passing_far_out(self):
        self.assertEqual(first_passing(falling(), "a", ("below", -FAR), 0), ((FAR + 4) // 3 + 1, 4 - 3 * ((FAR + 4) // 3 + 1)))
        start = FAR - 1000
        index, value = first_passing(odd(), "z", ("mod", 100, [7]), start)
        self.assertEqual(item_at(odd(), "z", index), item(value))
        self.assertTrue(value % 100 == 7 and start <= index < start + 300)
        self.assertEqual([x for x in window(odd(), "z", start, index - start) if x % 100 == 7], [])
        self.assertGreater(first_passing(odd(), "z", ("mod", 100, [7]), index + 1)[0], index)

    def test_count_passing(self):
        self.assertEqual(count_passing(odd(), "z", ("mod", 2, [0]), 6), (3, 6))
        self.assertEqual(count_passing(odd(), "z", ("mod", 2, [0]), 0), (0, 0))
        self.assertEqual(count_passing(short(), "c", ("from", 0), 9), (2, 2))
        self.assertEqual(count_passing(short(), "c", ("from", 1), FAR), (1, 2))
        self.assertEqual(count_passing(blind(), "b", ("below", 3), FAR), (3, 5))
        self.assertEqual(count_passing(odd(), "z", ("below", 10 ** 20), FAR), (2 * 10 ** 19, FAR))
        self.assertEqual(count_passing(odd(), "z", ("not", ("below", 10 ** 20)), FAR), (FAR - 2 * 10 ** 19, FAR))
        self.assertEqual(count_passing(tower(COUNT)[0], "a", ("mod", 100, [3, 99]), FAR), (FAR // 50, FAR))
        self.assertEqual(count_passing(falling(), "a", ("from", -FAR), FAR), ((FAR + 4) // 3 + 1, FAR))

    def test_window(self):
        self.assertEqual(window(odd(), "z", 3, 2), [18, 21])
        self.assertEqual(window(odd(), "z", 0, 0), [])
        self.assertEqual([window(short(), "c", first, 5) for first in range(3)], [[0, 3], [3], []])
        self.assertEqual(window(blind(), "b", 3, 1000), [3, 4])
        self.assertEqual(window(tower(COUNT)[0], "a", FAR, 1000), list(range(FAR, FAR + 1000)))
        net = join("chain", (), [("row", ([5, 6],))], [("span", (1, 2, 3))], [("ring", ([0, 9],))])
        self.assertEqual(window(net, "z", 1, 7), [6, 1, 3, 5, 0, 9, 0])

    def test_greatest_item(self):
        self.assertEqual(greatest_item(odd(), "z", 4), (18, 3))
        self.assertIs(greatest_item(odd(), "z", 0), None)
        self.assertEqual(greatest_item(short(), "c", FAR), (3, 1))
        self.assertEqual(greatest_item(falling(), "a", FAR), (4, 0))
        self.assertEqual(greatest_item(blind(), "b", FAR), (4, 4))
        self.assertIs(greatest_item(tower(("row", ([],)))[0], "a", FAR), None)
        self.assertEqual(greatest_item(tower(COUNT)[0], "a", FAR), (FAR - 1, FAR - 1))
        # The first one of equal ones.
        self.assertEqual(greatest_item(tower(("ring", ([1, 8, 3, 8],)))[0], "a", FAR), (8, 1))
        self.assertEqual(greatest_item(tower(COUNT, ("stutter", (4,)))[0], "b", FAR), (FAR // 4 - 1, FAR - 4))
        self.assertEqual(greatest_item(join("turns", (), [COUNT], [("ring", ([10],))]), "z", 21), (10, 1))
        self.assertEqual(greatest_item(join("turns", (), [COUNT], [("ring", ([10],))]), "z", 23), (11, 22))
        rising = join("turns", (), [("count", (100, 1))], [("count", (0, 3))])
        self.assertEqual(greatest_item(rising, "z", 100), (149, 98))
        self.assertEqual(greatest_item(rising, "z", 101), (150, 100))
        self.assertEqual(greatest_item(rising, "z", 104), (153, 103))


class PlainTest(unittest.TestCase):

    def items_of(self, net, outlet, pulls):
        """Return the items of so many pulls, and the end or the pull without an answer among them, if there is one."""
        plain = PlainMachine(net.node_list())
        found = []
        for _ in range(pulls):
            result = plain.pull(outlet)
            if result[0] == "item":
                found.append(result[1])
            if result[0] in ("end", "never"):
                return found, result
        return found, None

    def test_drawn_nets(self):
        ends = 0
        for seed in range(500):
            draw = random.Random(seed)
            net = drawn_net(draw, 7)
            for outlet in outlets(net):
                values, stop = self.items_of(net, outlet, draw.choice((30, 150)))
                self.check_numbers(draw, net, outlet, values, stop)
                for _ in range(3):
                    self.check_tests(draw, net, outlet, values, stop)
                ends += stop is not None
        self.assertGreater(ends, 200)

    def check_numbers(self, draw, net, outlet, values, stop):
        for index in {0, 1, len(values) - 1, len(values), draw.randint(0, len(values) + 2)} - {-1}:
            if index < len(values):
                self.assertEqual(item_at(net, outlet, index), item(values[index]))
            elif stop is not None:
                self.assertEqual(item_at(net, outlet, index), stop)
        many, why = item_count(net, outlet)
        if stop is not None:
            self.assertEqual((many, why), (len(values), stop))
        else:
            self.assertTrue(many is None and why == ("endless",) or many >= len(values))

    def check_tests(self, draw, net, outlet, values, stop):
        test = test_of(draw)
        beyond = 5 if stop is not None else 0
        start = draw.randint(0, len(values))
        wanted = [(at, value) for at, value in enumerate(values) if at >= start and passes(test, value)]
        found = first_passing(net, outlet, test, start)
        if wanted or stop is not None:
            self.assertEqual(found, wanted[0] if wanted else None)
        else:
            self.assertTrue(found is None or found[0] >= len(values))
        many = draw.randint(0, len(values) + beyond)
        first = values[:many]
        self.assertEqual(count_passing(net, outlet, test, many), (sum(passes(test, value) for value in first), len(first)))
        self.assertEqual(greatest_item(net, outlet, many), (max(first), first.index(max(first))) if first else None)
        start = draw.randint(0, len(values) + beyond)
        many = draw.randint(0, max(len(values) + beyond - start, 0))
        self.assertEqual(window(net, outlet, start, many), values[start:start + many])

    def test_far_counts_in_parts(self):
        for seed in range(200):
            draw = random.Random(60000 + seed)
            net = drawn_net(draw, 7)
            outlet = draw.choice(outlets(net))
            test = test_of(draw)
            passed, seen = count_passing(net, outlet, test, FAR)
            others, again = count_passing(net, outlet, ("not", test), FAR) if test[0] != "not" else (seen - passed, seen)
            self.assertEqual((passed + others, again), (seen, seen))
            many = item_count(net, outlet)[0]
            self.assertEqual(seen, FAR if many is None else many)
            # Between two counts stand as many as a window shows.
            low = draw.randint(0, 10 ** 20)
            near = count_passing(net, outlet, test, low + 50)[0] - count_passing(net, outlet, test, low)[0]
            shown = window(net, outlet, low, 50)
            self.assertEqual(near, sum(passes(test, value) for value in shown))
            first = first_passing(net, outlet, test, low)
            hits = [low + at for at, value in enumerate(shown) if passes(test, value)]
            if hits:
                self.assertEqual(first[0], hits[0])
            elif first is not None:
                self.assertEqual(count_passing(net, outlet, test, min(first[0], FAR))[0],
                                 count_passing(net, outlet, test, low)[0])
            best = greatest_item(net, outlet, low + 50)
            if shown:
                self.assertGreaterEqual(best[0], max(shown))
                self.assertEqual(item_at(net, outlet, best[1]), item(best[0]))


class OutletsTest(unittest.TestCase):

    def test_an_outlet_is_pulled_alone_from_the_beginning(self):
        net = Net([("a", "count", (0, 1), []), ("s", "split", (), ["a"]), ("l", "step", (3,), ["s"]),
                   ("r", "scale", (2, 0), ["s"])])
        self.assertEqual((window(net, "l", 0, 3), window(net, "r", 0, 3)), ([0, 3, 6], [0, 2, 4]))


if __name__ == "__main__":
    unittest.main()
