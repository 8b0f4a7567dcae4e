"""Points [3], [7] and [9]: parameters at their bounds and nets near the limits; each answer comes within seconds."""

import random
import time
import unittest

from both import Both
from makers import END, FAR, items

from pullworks.demands import dearest, items_ahead, needed, served, spent
from pullworks.items import count_passing, first_passing, greatest_item, item_at, item_count, window
from pullworks.machines import Machine
from pullworks.nets import Net, cells, load, loops, outlets, sources_of, weight
from pullworks.schedules import first_round, run, tallies

SECONDS = 5

LETTERS = "abcdefghijklmnopqrstuvwxyz"


def wild(draw, many):
    """Return so many numbers anywhere within the bounds."""
    return [draw.randint(-FAR, FAR) for _ in range(many)]


def on_top(nodes, *kinds):
    """Return nodes with more of them, one over the other, over the last one."""
    nodes = list(nodes)
    for at, (kind, parameters) in enumerate(kinds):
        nodes.append(("n" + LETTERS[at], kind, parameters, [nodes[-1][0]]))
    return nodes


def wild_ring(draw, many):
    """Return nodes whose items are on many lines that pass a bound at far and different times."""
    return [("a", "ring", (wild(draw, many),), []), ("b", "count", (0, 1), []), ("c", "zip", ("sum",), ["a", "b"])]


def heavy_nets():
    """Return nets near the limits of weight, load and cells."""
    draw = random.Random(5)
    scales = [("scale", (1, 1))]
    found = [
        on_top(wild_ring(draw, 100), ("stutter", (2,)), *scales * 25),
        on_top(wild_ring(draw, 48), *scales * 12, ("keep", (("below", 0),)), *scales * 12),
        on_top(wild_ring(draw, 48), ("heads", ()), *scales * 20),
        on_top(wild_ring(draw, 48), ("step", (FAR,)), *scales * 20),
        on_top(wild_ring(draw, 48), ("table", ([5],)), ("lengths", ())),
        on_top(wild_ring(draw, 9), ("keep", (("from", 0),)), ("batch", (FAR, "last", "give")), *scales * 20),
        on_top(wild_ring(draw, 3), ("keep", (("from", 0),)), ("drop", (FAR,)), ("step", (10 ** 15,)), *scales * 20),
        on_top([("a", "count", (-FAR, 1), [])], ("keep", (("from", 0),)), ("step", (10 ** 9,)), ("drop", (10 ** 9,)),
               ("heads", ()),
               *scales * 20),
        on_top([("a", "count", (0, 7), [])], ("table", (list(range(100)),)), ("table", ([3, 4],)), ("pairs", ()),
               ("ahead", (20,))),
        on_top([("a", "row", (wild(draw, 100),), [])], ("stutter", (50,)), ("stutter", (4,)), ("ahead", (20,))),
        on_top([("a", "ring", (list(range(100)),), [])], ("until", (("mod", 2, [0, 1]),)), ("fault", (FAR, "net"))),
    ]
    spans = [(LETTERS[at], "span", (draw.randint(-FAR, FAR), at - 5, draw.randint(FAR // 2, FAR)), []) for at in range(10)]
    names = [node[0] for node in spans]
    for kind, parameters in (("turns", ()), ("longest", (7, "sum")), ("zip", ("sum",)), ("chain", ()), ("choose", ())):
        found.append(on_top([*spans, ("z", kind, parameters, names)], ("keep", (("not", ("below", 0)),)), *scales * 15))
    rings = [("r" + LETTERS[at], "ring", ([draw.randint(0, 9) for _ in range(length)],), []) for at,
             length in enumerate((2, 4, 3))]
    found.append([*rings, ("x", "choose", (), ["ra", "rb", "rc"]), ("y", "batch", (FAR, "last", "give"), ["x"])])
    # Many ports: copies of a ring that are pulled at different speeds.
    ports = [("a", "ring", ([4, -1],), []), ("s", "split", (), ["a"]), ("d", "drop", (FAR,), ["s"]), ("e", "step", (7,), ["s"])]
    found.append([*ports, ("z", "zip", ("sum",), ["s", "d"]), ("y", "turns", (), ["z", "e"])])
    below = [("a", "count", (0, 1), []), ("s", "split", (), ["a"]), ("b", "longest", (0, "sum"), ["s"] * 5),
             ("t", "split", (), ["b"])]
    found.append([*below, ("c", "zip", ("last",), ["t"] * 4), *[("x" + letter, "take", (FAR,), ["t"]) for letter in "a"]])
    return [Net(nodes) for nodes in found]


def bounded_sources(draw):
    """Return sources whose parameters are at their bounds."""
    return [("a", "count", (FAR, -FAR), []), ("b", "row", (wild(draw, 100),), []), ("c", "span", (-FAR, FAR, 150), []),
            ("d", "row", ([3] * 100,), []), ("e", "count", (-FAR, 1), []), ("f", "span", (5, 0, 200), [])]


class NearLimitsTest(unittest.TestCase):

    def setUp(self):
        self.begun = time.monotonic()

    def in_time(self, value, what):
        """Return a value that has been worked out within seconds."""
        now = time.monotonic()
        self.assertLess(now - self.begun, SECONDS, what)
        self.begun = now
        return value

    def test_all_questions(self):
        for at, net in enumerate(heavy_nets()):
            self.begun = time.monotonic()
            for outlet in outlets(net):
                source = sources_of(net, outlet)[0]
                machine = Machine(net)
                self.in_time(machine.pull_times(outlet, FAR), (at, "pull_times"))
                self.in_time(item_at(net, outlet, FAR), (at, "item_at"))
                self.in_time(item_count(net, outlet), (at, "item_count"))
                self.in_time(greatest_item(net, outlet, FAR), (at, "greatest_item"))
                self.in_time(window(net, outlet, FAR // 3, 1000), (at, "window"))
                modulus = min(100, 5000 // weight(net))
                for test in ("mod", modulus, []), ("mod", modulus, [modulus - 1]), ("below", -FAR), ("from", 5):
                    self.in_time(first_passing(net, outlet, test, 3), (at, "first_passing"))
                    self.in_time(count_passing(net, outlet, test, FAR), (at, "count_passing"))
                self.in_time(needed(net, outlet, FAR), (at, "needed"))
                self.in_time(spent(net, outlet, FAR // 7, FAR), (at, "spent"))
                self.in_time(items_ahead(net, outlet, source, FAR), (at, "items_ahead"))
                self.in_time(served(net, outlet, source, FAR), (at, "served"))
                self.in_time(dearest(net, outlet, source, FAR), (at, "dearest"))
                if load(net, 2) <= 10000:
                    steps = [("pull", outlet, 7), ("repeat", FAR, [("pull", outlet, FAR)])][:1 + (load(net, 3) <= 10000)]
                    self.in_time(tallies(net, steps), (at, "tallies"))
                    self.in_time(run(net, steps), (at, "run"))
                    self.in_time(first_round(net, steps[:1], outlet, "end"), (at, "first_round"))

    def test_they_are_near_the_limits(self):
        nets = heavy_nets()
        self.assertEqual(max(weight(net) for net in nets), 200)
        self.assertEqual(max(loops(net) for net in nets), 4)
        self.assertGreater(max(load(net, 1) for net in nets), 9700)
        self.assertGreaterEqual(max(cells(net) for net in nets), 60)

    def test_bounds_against_the_plain_machine(self):
        draw = random.Random(8)
        kinds = [("table", (wild(draw, 100),)), ("keep", (("mod", 48, list(range(0, 48, 3))),)), ("stutter", (50,)),
                 ("heads", ()),
                 ("batch", (48, "sum", "give")), ("batch", (48, "sum", "lose")), ("ahead", (20,)), ("keep", (("below", FAR),)),
                 ("keep", (("from", -FAR),)), ("until", (("mod", 100, list(range(100))),)),
                 ("scale", (-FAR, FAR)), ("lengths", ()),
                 ("after", (("not", ("not", ("not", ("from", -FAR)))),)), ("take", (FAR,)),
                 ("fault", (FAR, "net")), ("pairs", ()),
                 ("step", (50,))]
        for source in bounded_sources(draw):
            for kind, parameters in kinds:
                Both(self, Net([source, ("z", kind, parameters, [source[0]])])).pull_all(210)

    def test_joins_at_their_bounds_against_the_plain_machine(self):
        draw = random.Random(9)
        lower = [("x" + LETTERS[at], *source[1:]) for at, source in enumerate(bounded_sources(draw)[:5] * 2)]
        for kind, parameters in (("zip", ("sum",)), ("longest", (-FAR, "sum")), ("turns", ()), ("chain", ()), ("choose", ())):
            Both(self, Net([*lower, ("z", kind, parameters, [node[0] for node in lower])])).pull_all(1100)

    def test_far_thresholds_in_parts(self):
        for net in heavy_nets():
            outlet = outlets(net)[0]
            whole, parts = Machine(net), Machine(net)
            result = whole.pull_times(outlet, FAR)
            if whole.stuck() is None:
                first, second = parts.pull_times(outlet, FAR // 3), parts.pull_times(outlet, FAR - FAR // 3)
                self.assertEqual((first[0] + second[0], first[1] + second[1], second[2]), result)

    def test_each_line_passes_its_bound(self):
        # Line r of the ring is at or above 0 from round (-x - r + 47) // 48 on; all rounds before are lost.
        draw = random.Random(11)
        numbers = wild(draw, 48)
        nodes = [("a", "ring", (numbers,), []), ("b", "count", (0, 1), []), ("c", "zip", ("sum",), ["a", "b"])]
        net = Net([*nodes, ("z", "keep", (("from", 0),), ["c"])])
        given = 0
        for at, number in enumerate(numbers):
            first = max((-number - at + 47) // 48, 0)
            given += max(10 ** 28 - first, 0)
        machine = Machine(net)
        machine.pull_times("z", given)
        # Behind so many items the machine stands within round 10 ** 28 - 1, or one read behind it.
        reads = machine.reads("a")
        self.assertTrue(48 * (10 ** 28 - 1) < reads <= 48 * 10 ** 28, reads)
        self.assertEqual(machine.pull("z")[0], "item")
        self.assertGreater(machine.reads("a"), 48 * 10 ** 28)

    def test_the_end_behind_far_rounds(self):
        machine = Machine(Net([("a", "span", (0, 1, FAR), []), ("z", "stutter", (50,), ["a"])]))
        for _ in range(50):
            machine.pull_times("z", FAR)
        self.assertEqual([machine.pull("z"), machine.reads("a")], [END, FAR + 1])
        self.assertEqual(items(1), [("item", 1)])


if __name__ == "__main__":
    unittest.main()
