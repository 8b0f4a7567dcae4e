"""Points [29] to [33]: the reads that items and pulls need, what reads serve, and the dearest pull."""

import random
import unittest

from drawing import drawn_net
from makers import FAR, join, tower
from plain import PlainMachine

from pullworks.demands import dearest, items_ahead, needed, served, spent
from pullworks.items import item_count
from pullworks.machines import Machine
from pullworks.nets import Net, outlets, sources_of

COUNT = ("count", (0, 1))


def short():
    """Return the net of point 8."""
    return tower(COUNT, ("keep", (("mod", 3, [0]),)), ("take", (2,)))[0]


def wide():
    return tower(COUNT, ("step", (10 ** 6,)))[0]


def blind():
    return tower(COUNT, ("keep", (("below", 5),)))[0]


def several():
    """Return a net that reads from "d", "b", "a" by "z", and from "a" and "c" by "y"."""
    return Net([("d", "row", ([7, 8, 9],), []), ("b", "count", (0, 1), []), ("a", "count", (0, 1), []),
                ("s", "split", (), ["a"]),
                ("k", "keep", (("mod", 3, [1]),), ["s"]), ("z", "longest", (0, "sum"), ["k", "b", "d"]),
                ("c", "count", (0, 1), []),
                ("y", "turns", (), ["c", "s"])])


class NeededTest(unittest.TestCase):

    def test_the_examples(self):
        self.assertEqual([needed(short(), "c", items) for items in range(4)], [[("a", 0)], [("a", 1)], [("a", 4)], None])
        self.assertEqual(needed(wide(), "b", 10 ** 20), [("a", 10 ** 26 - 10 ** 6 + 1)])

    def test_more(self):
        self.assertEqual(needed(wide(), "b", FAR), [("a", (FAR - 1) * 10 ** 6 + 1)])
        self.assertEqual([needed(blind(), "b", items) for items in (5, 6, FAR)], [[("a", 5)], None, None])
        self.assertEqual(needed(several(), "z", 2), [("d", 2), ("b", 2), ("a", 5)])
        self.assertEqual(needed(several(), "z", FAR), [("d", 4), ("b", FAR), ("a", 3 * FAR - 1)])
        self.assertEqual(needed(several(), "y", 5), [("a", 2), ("c", 3)])
        self.assertEqual(needed(several(), "z", 0), [("d", 0), ("b", 0), ("a", 0)])

    def test_errors_and_ends_between_items(self):
        net = join("chain", (), [("row", ([],))], [COUNT, ("fault", (0, "net")), ("fault", (2, "net")), ("take", (2,))])
        self.assertEqual([needed(net, "z", items) for items in range(4)],
                         [[("a", 0), ("b", 0)], [("a", 1), ("b", 1)], [("a", 1), ("b", 2)], None])


class SpentTest(unittest.TestCase):

    def test_the_examples(self):
        self.assertEqual(spent(short(), "c", 1, 2), [("a", 3)])
        self.assertEqual(spent(short(), "c", 2, 10), [("a", 0)])

    def test_more(self):
        self.assertEqual(spent(short(), "c", 0, 0), [("a", 0)])
        self.assertEqual(spent(short(), "c", FAR, FAR), [("a", 0)])
        self.assertEqual(spent(short(), "c", 0, 10 ** 40), [("a", 4)])
        self.assertEqual(spent(wide(), "b", 5, 10 ** 25), [("a", (10 ** 25 - 5) * 10 ** 6)])
        self.assertEqual(spent(several(), "z", 2, 5), [("d", 2), ("b", 3), ("a", 9)])
        self.assertEqual(spent(several(), "y", 1, 4), [("a", 2), ("c", 1)])

    def test_pulls_that_are_never_answered(self):
        self.assertEqual(spent(blind(), "b", 0, 5), [("a", 5)])
        self.assertEqual(spent(blind(), "b", 5, 5), [("a", 0)])
        for first, after in ((0, 6), (5, 6), (6, 6), (7, 7), (7, 9), (0, FAR)):
            self.assertIs(spent(blind(), "b", first, after), None)
        endless = tower(COUNT, ("keep", (("below", 0),)))[0]
        self.assertEqual(spent(endless, "b", 0, 0), [("a", 0)])
        self.assertIs(spent(endless, "b", 1, 1), None)


class ServedTest(unittest.TestCase):

    def test_the_examples(self):
        self.assertEqual([items_ahead(short(), "c", "a", number) for number in range(6)], [0, 1, 1, 1, None, None])
        self.assertEqual([served(short(), "c", "a", number) for number in range(6)], [0, 1, 1, 1, None, None])

    def test_far(self):
        self.assertEqual(items_ahead(wide(), "b", "a", FAR), 10 ** 24)
        self.assertEqual(items_ahead(wide(), "b", "a", FAR - 1), 10 ** 24)
        self.assertEqual(served(wide(), "b", "a", FAR), 10 ** 24)
        self.assertEqual(served(wide(), "b", "a", 10 ** 24 + 1), 10 ** 18 + 1)
        self.assertEqual(served(wide(), "b", "a", 10 ** 24), 10 ** 18)

    def test_reads_that_serve_no_item(self):
        lost = tower(("row", ([5, 6, 1, 7],)), ("keep", (("below", 3),)))[0]
        self.assertEqual([items_ahead(lost, "b", "a", number) for number in range(6)], [0, 0, 0, 1, 1, None])
        # Reads 3 and 4 are an item that is lost and the end.
        self.assertEqual([served(lost, "b", "a", number) for number in range(6)], [0, 0, 0, None, None, None])

    def test_a_read_whose_pull_gives_an_error(self):
        net = tower(COUNT, ("fault", (2, "net")), ("batch", (3, "sum", "give")))[0]
        self.assertEqual([items_ahead(net, "c", "a", number) for number in range(5)], [0, 0, 0, 1, 1])
        self.assertEqual([served(net, "c", "a", number) for number in range(5)], [0, 0, 0, 1, 1])
        net = tower(COUNT, ("fault", (2, "net")), ("batch", (3, "sum", "give")), ("dying", ()))[0]
        self.assertEqual([items_ahead(net, "d", "a", number) for number in range(3)], [0, 0, None])
        self.assertIs(served(net, "d", "a", 0), None)

    def test_reads_within_a_pull_that_is_never_answered(self):
        self.assertEqual([items_ahead(blind(), "b", "a", number) for number in (4, 5, 6, FAR)], [4, None, None, None])
        self.assertEqual([served(blind(), "b", "a", number) for number in (4, 5, FAR)], [4, None, None])

    def test_sources_below_several_ports(self):
        net = Net([("a", "count", (0, 1), []), ("s", "split", (), ["a"]), ("d", "step", (4,), ["s"]),
                   ("z", "turns", (), ["s", "d", "s"])])
        # Pulls 0, 2, 3, 5 and so on read one each, and pulls 1, 4, 7 go to the results 0, 4, 8 and so on.
        self.assertEqual([items_ahead(net, "z", "a", number) for number in range(10)], [0, 3, 4, 4, 4, 7, 7, 7, 7, 10])
        self.assertEqual(needed(net, "z", 8), [("a", 9)])
        self.assertEqual(dearest(net, "z", "a", 9), (4, 7))
        self.assertEqual(dearest(net, "z", "a", 7), (3, 4))

    def test_a_source_that_is_the_outlet(self):
        net = tower(("span", (0, 1, 3)))[0]
        self.assertEqual([items_ahead(net, "a", "a", number) for number in range(5)], [0, 1, 2, 3, None])
        self.assertEqual([served(net, "a", "a", number) for number in range(5)], [0, 1, 2, None, None])
        self.assertEqual([needed(net, "a", 3), spent(net, "a", 2, 9), dearest(net, "a", "a", FAR)],
                         [[("a", 3)], [("a", 2)], (1, 0)])


class DearestTest(unittest.TestCase):

    def test_the_example(self):
        self.assertEqual([dearest(short(), "c", "a", pulls) for pulls in (1, 2, 5, FAR)], [(1, 0), (3, 1), (3, 1), (3, 1)])

    def test_more(self):
        self.assertEqual(dearest(wide(), "b", "a", FAR), (10 ** 6, 1))
        self.assertEqual(dearest(tower(COUNT, ("take", (0,)))[0], "b", "a", FAR), (0, 0))
        self.assertEqual(dearest(tower(COUNT, ("ahead", (20,)))[0], "b", "a", FAR), (21, 0))
        self.assertEqual(dearest(several(), "z", "a", FAR), (3, 1))
        self.assertEqual(dearest(several(), "z", "d", FAR), (1, 0))
        self.assertEqual(dearest(tower(("count", (FAR, -1)), ("keep", (("below", 0),)))[0], "b", "a", FAR), (FAR + 2, 0))

    def test_pulls_that_are_never_answered(self):
        self.assertEqual(dearest(blind(), "b", "a", FAR), (1, 0))
        self.assertIs(dearest(tower(COUNT, ("keep", (("below", 0),)))[0], "b", "a", FAR), None)
        self.assertEqual(dearest(tower(("row", ([1, 1, 1, 2],)), ("heads", ()))[0], "b", "a", 2), (3, 1))

    def test_far_runs(self):
        net = join("chain", (), [("span", (1, 0, 10 ** 20))], [("span", (2, 0, 10 ** 25))], [("span", (3, 0, 10 ** 22))])
        net = Net([*net.node_list(), ("y", "lengths", (), ["z"])])
        self.assertEqual([dearest(net, "y", name, FAR) for name in "abc"], [(10 ** 20 + 1, 0), (10 ** 25, 1), (10 ** 22, 2)])
        self.assertEqual(dearest(net, "y", "b", 1), (1, 0))

    def test_the_faster_port_overtakes(self):
        # The first port is 1000 results ahead; the second one takes 3 for each 1 of the first, and is ahead from pull 501 on.
        net = Net([("a", "count", (0, 1), []), ("s", "split", (), ["a"]), ("d", "drop", (1000,), ["s"]),
                   ("e", "step", (3,), ["s"]),
                   ("z", "zip", ("sum",), ["d", "e"])])
        self.assertEqual([dearest(net, "z", "a", pulls) for pulls in (1, 500, FAR)], [(1001, 0)] * 3)
        self.assertEqual(spent(net, "z", 400, 500), [("a", 100)])
        self.assertEqual(spent(net, "z", 600, 700), [("a", 300)])


    def test_one_port_overtakes_another_far_out(self):
        # The first pulls read one each for the first port; then the second one goes through them by threes and reads on.
        for first in (100, 10 ** 20):
            net = Net([("c", "span", (0, 0, first), []), ("d", "count", (1, 0), []), ("k", "chain", (), ["c", "d"]),
                       ("a", "count", (0, 1), []), ("s", "split", (), ["a"]), ("e", "step", (3,), ["s"]),
                       ("z", "choose", (), ["k", "s", "e"])])
            even = first + (first - 1) // 3
            self.assertEqual([dearest(net, "z", "a", pulls) for pulls in (1, even + 1, even + 2, FAR)],
                             [(1, 0)] * 2 + [(3, even + 1)] * 2)
            self.assertEqual(spent(net, "z", first, even + 1), [("c", 1), ("d", even + 1 - first), ("a", 0)])
            self.assertEqual(items_ahead(net, "z", "a", first), even + 1)

    def test_few_pulls_of_several_ports(self):
        net = Net([("a", "count", (0, 1), []), ("s", "split", (), ["a"]), ("d", "drop", (2,), ["s"]),
                   ("z", "turns", (), ["s", "d", "s"])])
        self.assertEqual([dearest(net, "z", "a", pulls) for pulls in (1, 2, 3, 4, 9)], [(1, 0), *[(2, 1)] * 4])


class PlainTest(unittest.TestCase):

    def test_drawn_nets(self):
        for seed in range(450):
            draw = random.Random(seed)
            net = drawn_net(draw, 8)
            for outlet in outlets(net):
                self.check(draw, net, outlet, draw.choice((30, 120)))

    def check(self, draw, net, outlet, pulls):
        plain = PlainMachine(net.node_list())
        sources = sources_of(net, outlet)
        reads, given = [[0] * len(sources)], []
        last = None
        while len(reads) <= pulls and plain.stuck_at is None:
            last = plain.pull(outlet)
            if last[0] == "item":
                given.append(len(reads) - 1)
            if plain.stuck_at is None:
                reads.append([plain.reads(source) for source in sources])
        over = last[0] in ("end", "never")
        for items in {0, 1, len(given), len(given) + over, draw.randint(0, len(given))}:
            if items <= len(given):
                wanted = list(zip(sources, reads[given[items - 1] + 1] if items > 0 else reads[0]))
                self.assertEqual(needed(net, outlet, items), wanted)
            elif over:
                self.assertIs(needed(net, outlet, items), None)
        for _ in range(3):
            first = draw.randint(0, pulls)
            after = draw.randint(first, pulls)
            wanted = None
            if after < len(reads):
                wanted = [(source, high - low) for source, high, low in zip(sources, reads[after], reads[first])]
            self.assertEqual(spent(net, outlet, first, after), wanted)
        for at, source in enumerate(sources):
            self.check_source(draw, net, outlet, source, [row[at] for row in reads], given, over, pulls)

    def check_source(self, draw, net, outlet, source, reads, given, over, pulls):
        for number in {0, reads[-1], max(reads[-1] - 1, 0), draw.randint(0, reads[-1] + 1)}:
            made = [at for at in range(len(reads) - 1) if reads[at + 1] > number]
            if made:
                ahead = len([at for at in given if at < made[0]])
                self.assertEqual(items_ahead(net, outlet, source, number), ahead)
                if ahead < len(given) or over:
                    self.assertEqual(served(net, outlet, source, number), ahead if ahead < len(given) else None)
            elif over:
                self.assertIs(items_ahead(net, outlet, source, number), None)
                self.assertIs(served(net, outlet, source, number), None)
        many = draw.randint(1, pulls)
        costs = [high - low for low, high in zip(reads, reads[1:])][:many]
        self.assertEqual(dearest(net, outlet, source, many), (max(costs), costs.index(max(costs))) if costs else None)

    def test_far_numbers_in_parts(self):
        for seed in range(200):
            draw = random.Random(70000 + seed)
            net = drawn_net(draw, 8)
            outlet = draw.choice(outlets(net))
            source = draw.choice(sources_of(net, outlet))
            low, high = sorted([draw.randint(0, 10 ** 20), draw.randint(0, FAR)])
            whole, first, second = spent(net, outlet, 0, high), spent(net, outlet, 0, low), spent(net, outlet, low, high)
            if whole is None:
                self.assertIs(second, None)
                continue
            self.assertEqual(whole, [(name, one + other) for (name, one), (_, other) in zip(first, second)])
            machine = Machine(net)
            machine.pull_times(outlet, low)
            self.assertEqual(first, [(name, machine.reads(name)) for name in sources_of(net, outlet)])
            # The dearest pull costs what it is said to cost, and the pulls around it no more.
            reads, pull = dearest(net, outlet, source, high + 1)
            for at in range(max(pull - 5, 0), pull + 6):
                cost = dict(spent(net, outlet, at, at + 1) or [])
                if at <= high and cost:
                    self.assertTrue(cost[source] < reads or cost[source] == reads and at >= pull, (seed, at))
            total = dict(first)[source]
            if total > 0:
                ahead = items_ahead(net, outlet, source, total - 1)
                self.assertLessEqual(ahead, min(low, item_count(net, outlet)[0] or low))


if __name__ == "__main__":
    unittest.main()
