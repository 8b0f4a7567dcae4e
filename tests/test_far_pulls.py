"""Points [3] and [17]: far pulls, by formulas, by the growth that the plain machine shows, and in several parts."""

import random
import unittest

from drawing import drawn_net
from makers import END, FAR, error, item, items, join, tower
from plain import PlainMachine

from pullworks.machines import Machine
from pullworks.nets import Net, outlets, sources_of

COUNT = ("count", (0, 1))


class FormulaTest(unittest.TestCase):

    def check(self, kinds, n, last, reads=None, more=()):
        """Pull the uppermost node n times, all results items, the last one as told; then compare further results."""
        net, outlet = tower(*kinds)
        machine = Machine(net)
        self.assertEqual(machine.pull_times(outlet, n), (n, 0, item(last)))
        if reads is not None:
            self.assertEqual(machine.reads("a"), reads)
        self.assertEqual([machine.pull(outlet) for _ in more], list(more))

    def test_sources(self):
        self.check([("count", (-FAR, FAR))], FAR, -FAR + (FAR - 1) * FAR, FAR)
        self.check([("count", (FAR, -FAR))], FAR, FAR - (FAR - 1) * FAR, FAR)
        self.check([("span", (5, 2, FAR))], FAR, 5 + 2 * (FAR - 1), FAR, [END, END])
        self.check([("ring", ([7, 8, 9],))], FAR, 7, FAR, items(8, 9, 7))
        self.check([("ring", (list(range(100)),))], FAR - 1, 98, FAR - 1, items(99, 0))

    def test_single_results(self):
        self.check([COUNT, ("scale", (-FAR, FAR))], FAR, -FAR * (FAR - 1) + FAR, FAR)
        self.check([COUNT, ("table", (list(range(100, 197)),))], FAR, 100 + (FAR - 1) % 97, FAR)
        self.check([COUNT, ("take", (FAR,))], FAR, FAR - 1, FAR, [END])
        self.check([COUNT, ("fault", (FAR, "net"))], FAR, FAR - 1, FAR, [error(), item(FAR)])
        self.check([("count", (-FAR, 1)), ("until", (("below", 7),))], FAR, -1, FAR, [*items(0, 1, 2, 3, 4, 5, 6), END])
        self.check([COUNT, ("ahead", (20,))], FAR, FAR - 1, FAR + 20)
        self.check([("ring", ([1, 5, 3],)), ("pairs", ())], FAR, 4, FAR + 1, items(-2, -2, 4))
        self.check([COUNT, ("stutter", (50,))], FAR, (FAR - 1) // 50, FAR // 50)

    def test_loops(self):
        self.check([COUNT, ("keep", (("mod", 48, [5, 7]),))], FAR, (FAR // 2 - 1) * 48 + 7, (FAR // 2 - 1) * 48 + 8)
        self.check([COUNT, ("keep", (("from", FAR),))], FAR, 2 * FAR - 1, 2 * FAR)
        self.check([COUNT, ("after", (("below", FAR),))], 5, FAR + 4, FAR + 5)
        self.check([COUNT, ("drop", (FAR,))], FAR, 2 * FAR - 1, 2 * FAR)
        self.check([COUNT, ("step", (FAR,))], FAR, FAR * (FAR - 1), FAR * (FAR - 1) + 1)
        for how, last in (("first", FAR * (FAR - 1)), ("last", FAR * FAR - 1), ("many", FAR)):
            self.check([COUNT, ("batch", (FAR, how, "give"))], FAR, last, FAR * FAR)
        first = 48 * (FAR - 1)
        self.check([COUNT, ("batch", (48, "sum", "give"))], FAR, sum(range(first, first + 48)), 48 * FAR)

    def test_loops_in_loops(self):
        self.check([COUNT, ("step", (FAR,)), ("step", (FAR,)), ("step", (FAR,))], 3, 2 * FAR ** 3, 2 * FAR ** 3 + 1)
        self.check([COUNT, ("batch", (FAR, "last", "give")), ("drop", (FAR,)), ("batch", (FAR, "first", "lose"))], 2,
                   FAR * (2 * FAR + 1) - 1)
        self.check([COUNT, ("keep", (("mod", 3, [1]),)), ("step", (FAR,)), ("drop", (FAR,))], 1, 1 + 3 * FAR * FAR)
        kinds = [("drop", (FAR,)), ("step", (FAR,)), ("drop", (1,)), ("step", (2,))]
        self.check([COUNT, *kinds], FAR, FAR + FAR * (1 + 2 * (FAR - 1)))

    def test_runs(self):
        one, other, third = ("span", (5, 0, FAR)), ("span", (6, 0, FAR - 7)), ("span", (6, 1, 3))
        net = join("chain", (), [one], [other], [third])
        lower = net.node_list()
        machine = Machine(Net([*lower, ("y", "lengths", (), ["z"])]))
        self.assertEqual([machine.pull("y") for _ in range(6)], [*items(FAR, FAR - 6, 1, 1), END, END])
        machine = Machine(Net([*lower, ("y", "heads", (), ["z"])]))
        self.assertEqual([machine.pull("y") for _ in range(5)], [*items(5, 6, 7, 8), END])
        self.assertEqual([machine.reads(name) for name in "abc"], [FAR + 1, FAR - 6, 4])
        machine = Machine(Net([*lower, ("y", "batch", (FAR, "last", "give"), ["z"])]))
        self.assertEqual([machine.pull("y") for _ in range(3)], [*items(5, 8), END])

    def test_items_that_are_equal_in_one_far_round(self):
        # Item 2 * FAR - 2 is equal to the one before, and so is item 2 * FAR + 1: both inputs give 2 * FAR in round FAR.
        lower = join("turns", (), [("count", (0, 2))], [("count", (FAR, 1))]).node_list()
        machine = Machine(Net([*lower, ("y", "heads", (), ["z"])]))
        self.assertEqual(machine.pull_times("y", FAR), (FAR, 0, item(FAR + FAR // 2 - 1)))
        self.assertEqual(machine.pull_times("y", FAR), (FAR, 0, item(2 * FAR)))
        self.assertEqual([machine.pull("y") for _ in range(4)], items(2 * FAR + 2, 2 * FAR + 1, 2 * FAR + 4, 2 * FAR + 2))
        machine = Machine(Net([*lower, ("y", "lengths", (), ["z"])]))
        self.assertEqual([machine.pull_times("y", many)[2] for many in (FAR, FAR - 4)], items(1, 1))
        self.assertEqual([machine.pull("y") for _ in range(7)], items(1, 2, 1, 2, 1, 1, 1))
        self.assertEqual(machine.pull_times("y", FAR), (FAR, 0, item(1)))

    def test_counts_that_fall_far(self):
        self.check([("count", (FAR, -1)), ("keep", (("below", 5 - FAR),))], FAR, 5 - 2 * FAR, 3 * FAR - 4)
        self.check([("count", (FAR, -3)), ("after", (("from", -FAR),))], 1, FAR - 3 * ((2 * FAR) // 3 + 1))
        net, outlet = tower(("count", (FAR, -1)), ("until", (("not", ("below", -FAR)),)))
        machine = Machine(net)
        self.assertEqual(machine.pull_times(outlet, FAR), (FAR, 0, item(1)))
        self.assertEqual(machine.pull_times(outlet, FAR), (FAR, 0, item(1 - FAR)))
        self.assertEqual([machine.pull(outlet) for _ in range(3)], [item(-FAR), END, END])
        self.assertEqual(machine.reads("a"), 2 * FAR + 2)
        net, outlet = tower(("count", (FAR, -1)), ("keep", (("from", -FAR),)))
        machine = Machine(net)
        self.assertEqual(machine.pull_times(outlet, FAR)[2], item(1))
        self.assertEqual(machine.pull_times(outlet, FAR)[2], item(1 - FAR))
        self.assertEqual(machine.pull_times(outlet, FAR), (1, 0, ("never", "b")))

    def test_joins(self):
        ten = [[("count", (10 ** at, at))] for at in range(10)]
        last = sum(10 ** at + at * (FAR - 1) for at in range(10))
        machine = Machine(join("zip", ("sum",), *ten))
        self.assertEqual(machine.pull_times("z", FAR), (FAR, 0, item(last)))
        machine = Machine(join("turns", (), *ten))
        self.assertEqual(machine.pull_times("z", FAR - 3), (FAR - 3, 0, item(10 ** 6 + 6 * (FAR // 10 - 1))))
        self.assertEqual([machine.reads(name) for name in "aghj"], [FAR // 10] * 2 + [FAR // 10 - 1] * 2)
        machine = Machine(join("longest", (7, "sum"), [("span", (0, 1, FAR // 2))], [("span", (0, 2, FAR))]))
        self.assertEqual(machine.pull_times("z", FAR), (FAR, 0, item(7 + 2 * (FAR - 1))))
        self.assertEqual([machine.pull("z"), machine.reads("a"), machine.reads("b")], [END, FAR // 2 + 1, FAR + 1])
        machine = Machine(join("choose", (), [COUNT], [("count", (0, 3))], [("ring", ([8, 9],))], [("count", (5, 0))]))
        self.assertEqual(machine.pull_times("z", FAR), (FAR, 0, item(FAR - 1)))
        self.assertEqual([machine.reads(name) for name in "abcd"], [FAR, FAR // 3 + 1, FAR // 3, FAR // 3])

    def test_errors_far_out(self):
        net, outlet = tower(COUNT, ("fault", (FAR, "net")), ("step", (3,)))
        machine = Machine(net)
        self.assertEqual(machine.pull_times(outlet, FAR), (FAR - 1, 1, item(3 * (FAR - 2))))
        net, outlet = tower(COUNT, ("fault", (10, "one")), ("fault", (FAR - 1, "two")), ("scale", (2, 0)))
        machine = Machine(net)
        self.assertEqual(machine.pull_times(outlet, FAR), (FAR - 2, 2, error("two")))
        self.assertEqual(machine.pull(outlet), item(2 * (FAR - 2)))

    def test_splits(self):
        net = Net([*tower(COUNT)[0].node_list(), ("s", "split", (), ["a"]), ("l", "step", (FAR,), ["s"]),
                   ("r", "scale", (1, 0), ["s"])])
        machine = Machine(net)
        self.assertEqual(machine.pull_times("l", FAR), (FAR, 0, item(FAR * (FAR - 1))))
        self.assertEqual((machine.reads("a"), machine.buffer("s")), (FAR * (FAR - 1) + 1,) * 2)
        self.assertEqual(machine.pull_times("r", FAR), (FAR, 0, item(FAR - 1)))
        self.assertEqual((machine.reads("a"), machine.buffer("s")), (FAR * (FAR - 1) + 1, FAR * (FAR - 2) + 1))
        net = Net([("a", "count", (0, 1), []), ("s", "split", (), ["a"]), ("d", "drop", (FAR,), ["s"]),
                   ("z", "zip", ("sum",), ["s", "d"])])
        machine = Machine(net)
        self.assertEqual(machine.pull_times("z", FAR), (FAR, 0, item(2 * (FAR - 1) + FAR)))
        self.assertEqual((machine.reads("a"), machine.buffer("s")), (2 * FAR, FAR))

    def test_pulls_behind_the_end(self):
        net, outlet = tower(("row", ([5],)), ("closing", ("bye",)))
        machine = Machine(net)
        for _ in range(3):
            machine.pull_times(outlet, FAR)
        self.assertEqual((machine.pull_times(outlet, FAR), machine.reads("a"), machine.notes()), ((0, 0, END), 2, ["bye"]))

    def test_many_far_pulls(self):
        net, outlet = tower(COUNT)
        machine = Machine(net)
        for number in range(1, 30):
            self.assertEqual(machine.pull_times(outlet, FAR), (FAR, 0, item(number * FAR - 1)))


class SteadyTest(unittest.TestCase):
    """What the plain machine shows to grow evenly over hundreds of pulls is asked for far out."""

    def period(self, results, reads):
        """Return the least period with an even growth from result 300 on."""
        for period in range(1, 100):
            if all(self.grows(results, reads, at, period) for at in range(300, len(results) - 2 * period)):
                return period
        return None

    def grows(self, results, reads, at, period):
        one, two, three = results[at], results[at + period], results[at + 2 * period]
        if not one[0] == two[0] == three[0] or reads[at + period] - reads[at] != reads[at + 2 * period] - reads[at + period]:
            return False
        return one[0] != "item" or two[1] - one[1] == three[1] - two[1]

    def test_drawn_nets(self):
        checked = growing = 0
        for seed in range(400):
            draw = random.Random(50000 + seed)
            net = drawn_net(draw, 8)
            outlet = draw.choice(outlets(net))
            source = draw.choice(sources_of(net, outlet))
            plain = PlainMachine(net.node_list())
            results, reads = [], []
            while len(results) < 700 and plain.stuck_at is None:
                results.append(plain.pull(outlet))
                reads.append(plain.reads(source))
            period = self.period(results, reads)
            if plain.stuck_at is not None or period is None:
                continue
            for n in (FAR, FAR - 1, 10 ** 29 - draw.randint(0, 10 ** 6), draw.randint(1000, 10 ** 20)):
                machine = Machine(net)
                last = machine.pull_times(outlet, n)[2]
                base = 300 + (n - 1 - 300) % period
                rounds = (n - 1 - base) // period
                wanted = results[base]
                if wanted[0] == "item":
                    wanted = item(wanted[1] + rounds * (results[base + period][1] - wanted[1]))
                self.assertEqual(last, wanted, (seed, n, net.node_list()))
                self.assertEqual(machine.reads(source), reads[base] + rounds * (reads[base + period] - reads[base]), seed)
            checked += 1
            growing += results[-1][0] == "item"
        self.assertGreater(checked, 300)
        self.assertGreater(growing, 100)


class PartsTest(unittest.TestCase):

    def test_two_or_three_parts(self):
        for seed in range(150):
            draw = random.Random(90000 + seed)
            net = drawn_net(draw, 9)
            whole, parts = Machine(net), Machine(net)
            far = draw.choice((FAR, 10 ** 12, 5000))
            outlet = draw.choice(outlets(net))
            cuts = sorted([0, far, *(draw.randint(0, draw.choice((10, far))) for _ in range(draw.randint(1, 2)))])
            wanted = whole.pull_times(outlet, far)
            found = [0, 0, None]
            for low, high in zip(cuts, cuts[1:]):
                if parts.stuck() is None and high > low:
                    got = parts.pull_times(outlet, high - low)
                    found = [found[0] + got[0], found[1] + got[1], got[2]]
            self.assertEqual(tuple(found), wanted, (seed, cuts))
            self.assertEqual((parts.stuck(), parts.notes()), (whole.stuck(), whole.notes()))
            if whole.stuck() is None:
                names = [node[0] for node in net.node_list() if node[1] in ("count", "span", "ring", "row")]
                self.assertEqual([parts.reads(name) for name in names], [whole.reads(name) for name in names])


if __name__ == "__main__":
    unittest.main()
