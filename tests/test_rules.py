"""Points [53] to [57]: rules, what they keep, normal nets, and chains told apart, by hand and against the plain machine."""

import itertools
import random
import time
import unittest

from drawing import parameters_of
from drawing import test_of as drawn_test
from makers import FAR, nots, strange_values
from plain import PlainMachine

from pullworks.errors import InvalidName, InvalidRecord, InvalidRule, LimitExceeded
from pullworks.machines import Machine
from pullworks.nets import Net, load, outlets
from pullworks.rules import applied, keeps, normal, rule_names, sites, telling_reads, telling_row

COUNT = ("a", "count", (0, 1), [])

NINE = ["drops", "early", "keeps", "late", "rise", "scales", "sink", "steps", "takes"]

RISING = [("take", (2,)), ("drop", (2,)), ("step", (2,)), ("stutter", (2,)), ("ahead", (2,)), ("fault", (2, "net")),
          ("dying", ()), ("calm", ("stop",)), ("calm", ("skip",))]

ABOVE = {"scales": ["scale"], "takes": ["take"], "drops": ["drop"], "steps": ["step"], "keeps": ["keep"], "sink": ["keep"],
         "rise": [kind for kind, _ in RISING], "early": ["drop"], "late": ["take"]}

BELOW = {"scales": "scale", "takes": "take", "drops": "drop", "steps": "step", "keeps": "keep", "sink": "scale",
         "rise": "scale", "early": "take", "late": "drop"}


def pair(upper, lower):
    """Return the net of the node "y" over "x" over a count."""
    return Net([COUNT, ("x", *lower, ["a"]), ("y", *upper, ["x"])])


def nodes_behind(rule, upper, lower):
    """Return the kinds and parameters behind a rule at "y", the lower one first."""
    return [node[1:3] for node in applied(pair(upper, lower), rule, "y").node_list()[1:]]


def ruled_nodes(draw):
    """Return nodes in which many rules fit, with some of all kinds between them."""
    nodes = [("a", draw.choice(("count", "count", "span", "row", "ring")), (), [])]
    nodes[0] = ("a", nodes[0][1], parameters_of(draw, nodes[0][1]), [])
    kinds = ["scale", "scale", "take", "drop", "step", "keep", "keep", "stutter", "ahead", "fault", "dying", "calm"]
    letters = iter("bcdefghijklmnop")
    towers = draw.randint(1, 2)
    if towers > 1 or draw.random() < 0.3:
        nodes.append((next(letters), "split", (), ["a"]))
    for _ in range(towers):
        lower = nodes[1][0] if len(nodes) > 1 and nodes[1][1] == "split" else "a"
        for _ in range(draw.randint(2, 4)):
            kind = draw.choice(kinds if draw.random() < 0.85 else ["heads", "pairs", "closing", "until", "after"])
            nodes.append((next(letters), kind, parameters_of(draw, kind), [lower]))
            lower = nodes[-1][0]
    return nodes


def ruled_net(draw):
    while True:
        try:
            return Net(ruled_nodes(draw))
        except LimitExceeded:
            continue


def far_parameters(draw, net):
    """Return the net with some numbers far out."""
    nodes = []
    for name, kind, parameters, inputs in net.node_list():
        if kind in ("take", "drop", "step", "fault") and draw.random() < 0.5:
            parameters = (draw.choice((10 ** 20, 10 ** 25 + 3)), *parameters[1:])
        if kind == "scale" and draw.random() < 0.3:
            parameters = (draw.choice((10 ** 9, -10 ** 12, 7)), draw.choice((10 ** 20, -5)))
        nodes.append((name, kind, parameters, inputs))
    return Net(nodes)


class HandTest(unittest.TestCase):

    def test_names(self):
        self.assertEqual(rule_names(), NINE)
        rule_names().clear()
        self.assertEqual(rule_names(), NINE)

    def test_the_example(self):
        net = Net([COUNT, ("x", "scale", (2, 1), ["a"]), ("y", "scale", (5, 0), ["x"]), ("z", "keep", (("below", 50),), ["y"])])
        self.assertEqual([sites(net, rule) for rule in NINE], [[], [], [], [], [], ["y"], ["z"], [], []])
        self.assertEqual(applied(net, "scales", "y").node_list(),
                         [COUNT, ("y", "scale", (10, 5), ["a"]), ("z", "keep", (("below", 50),), ["y"])])
        self.assertEqual(applied(net, "sink", "z").node_list(),
                         [COUNT, ("x", "scale", (2, 1), ["a"]), ("y", "keep", (("below", 10),), ["x"]),
                          ("z", "scale", (5, 0), ["y"])])

    def test_each_rule(self):
        below, mod = ("below", 3), ("mod", 5, [1, 2])
        for rule, upper, lower, wanted in (
                ("scales", ("scale", (3, -4)), ("scale", (-2, 5)), [("scale", (-6, 11))]),
                ("takes", ("take", (3,)), ("take", (7,)), [("take", (3,))]),
                ("takes", ("take", (7,)), ("take", (3,)), [("take", (3,))]),
                ("drops", ("drop", (3,)), ("drop", (7,)), [("drop", (10,))]),
                ("steps", ("step", (3,)), ("step", (7,)), [("step", (21,))]),
                ("keeps", ("keep", (below,)), ("keep", (mod,)), [("keep", (below,)), ("keep", (mod,))]),
                ("early", ("drop", (3,)), ("take", (7,)), [("drop", (3,)), ("take", (4,))]),
                ("early", ("drop", (7,)), ("take", (3,)), [("drop", (7,)), ("take", (0,))]),
                ("late", ("take", (3,)), ("drop", (7,)), [("take", (10,)), ("drop", (7,))])):
            self.assertEqual(nodes_behind(rule, upper, lower), wanted, (rule, upper, lower))
        for kind, parameters in RISING:
            self.assertEqual(nodes_behind("rise", (kind, parameters), ("scale", (0, 4))), [(kind, parameters), ("scale", (0, 4))])
        for other in ("keep", (("below", 1),)), ("pairs", ()), ("closing", ("bye",)), ("heads", ()), ("table", ([1],)):
            self.assertNotIn("y", sites(pair(other, ("scale", (0, 4))), "rise"))

    def test_sunk_tests(self):
        for seed in range(400):
            draw = random.Random(seed)
            test = drawn_test(draw)
            a, b = draw.choice([-7, -3, -2, -1, 1, 2, 5]), draw.randint(-9, 9)
            lower, upper = nodes_behind("sink", ("keep", (test,)), ("scale", (a, b)))
            self.assertEqual(upper, ("scale", (a, b)))
            for item in range(-40, 41):
                self.assertEqual(self.passes(lower[1][0], item), self.passes(test, a * item + b), (test, a, b, item))
            self.assertEqual(self.form(lower[1][0]), self.form(test))

    def passes(self, test, item):
        if test[0] == "not":
            return not self.passes(test[1], item)
        if test[0] == "mod":
            return item % test[1] in test[2]
        return item < test[1] if test[0] == "below" else item >= test[1]

    def form(self, test):
        """Return the form of a test: the nots, and a modulus."""
        if test[0] == "not":
            return ("not", self.form(test[1]))
        return (test[1],) if test[0] == "mod" else ()

    def test_fitting_and_just_not_fitting(self):
        big = FAR // 2
        for rule, upper, lower, fits in (
                ("scales", ("scale", (10 ** 15, 0)), ("scale", (10 ** 15, 0)), True),
                ("scales", ("scale", (10 ** 15, 0)), ("scale", (-10 ** 15 - 1, 0)), False),
                ("scales", ("scale", (2, FAR)), ("scale", (1, -1)), True),
                ("scales", ("scale", (1, FAR)), ("scale", (1, 1)), False),
                ("scales", ("scale", (0, FAR)), ("scale", (FAR, FAR)), True),
                ("drops", ("drop", (big,)), ("drop", (big,)), True), ("drops", ("drop", (big,)), ("drop", (big + 1,)), False),
                ("steps", ("step", (10 ** 10,)), ("step", (10 ** 20,)), True),
                ("steps", ("step", (10 ** 10 + 1,)), ("step", (10 ** 20,)), False),
                ("late", ("take", (big,)), ("drop", (big,)), True), ("late", ("take", (big,)), ("drop", (big + 1,)), False),
                ("early", ("drop", (FAR,)), ("take", (0,)), True), ("takes", ("take", (FAR,)), ("take", (FAR,)), True),
                ("sink", ("keep", (("below", FAR),)), ("scale", (1, 0)), True),
                ("sink", ("keep", (("below", FAR),)), ("scale", (1, -1)), False),
                ("sink", ("keep", (("from", -FAR),)), ("scale", (1, 1)), False),
                ("sink", ("keep", (("from", -FAR),)), ("scale", (-1, 0)), False),
                ("sink", ("keep", (("from", -FAR + 1),)), ("scale", (-1, 0)), True),
                ("sink", ("keep", (nots(3, ("mod", 48, [])),)), ("scale", (FAR, FAR)), True),
                ("sink", ("keep", (("below", 1),)), ("scale", (0, 1)), False)):
            net = pair(upper, lower)
            self.assertEqual(sites(net, rule), ["y"] if fits else [], (rule, upper, lower))
            if fits:
                self.assertEqual(applied(net, rule, "y")["y"][0], "y")
            else:
                with self.assertRaises(InvalidName) as caught:
                    applied(net, rule, "y")
                self.assertEqual(caught.exception.name, "y")

    def test_kinds_that_do_not_fit(self):
        kinds = [("scale", (2, 1)), ("take", (3,)), ("drop", (3,)), ("step", (3,)), ("keep", (("below", 9),)), ("heads", ()), *RISING]
        for upper, lower in itertools.product(kinds, kinds):
            net = pair(upper, lower)
            for rule in NINE:
                fits = upper[0] in ABOVE[rule] and lower[0] == BELOW[rule]
                self.assertEqual(sites(net, rule), ["y"] if fits else [], (rule, upper, lower))

    def test_places_and_names(self):
        nodes = [COUNT, ("s", "split", (), ["a"]), ("x", "take", (2,), ["s"]), ("b", "row", ([1],), []), ("y", "take", (5,), ["x"]),
                 ("w", "zip", ("sum",), ["y", "s"]), ("z", "scale", (1, 1), ["b"])]
        self.assertEqual(applied(Net(nodes), "takes", "y").node_list(),
                         [*nodes[:2], nodes[3], ("y", "take", (2,), ["s"]), *nodes[5:]])
        nodes[4] = ("y", "drop", (1,), ["x"])
        self.assertEqual(applied(Net(nodes), "early", "y").node_list(),
                         [*nodes[:2], ("x", "drop", (1,), ["s"]), nodes[3], ("y", "take", (1,), ["x"]), *nodes[5:]])
        over = Net([COUNT, ("s", "split", (), ["a"]), ("y", "take", (5,), ["s"]), ("z", "take", (5,), ["s"])])
        self.assertEqual([sites(over, rule) for rule in NINE], [[]] * 9)
        self.assertEqual(sites(Net([COUNT, *[("bcde"[at], "step", (2,), ["abcd"[at]]) for at in range(4)]]), "steps"),
                         ["c", "d", "e"])

    def test_nets_and_lists_stay(self):
        net = pair(("keep", (("mod", 3, [0]),)), ("scale", (2, 1)))
        before = net.node_list()
        behind = applied(net, "sink", "y")
        behind["y"][3].append("z")
        behind.node_list()[1][2][0][2].append(5)
        sites(net, "sink").clear()
        self.assertEqual((net.node_list(), sites(net, "sink")), (before, ["y"]))
        self.assertEqual(behind.node_list(), [COUNT, ("x", "keep", (("mod", 3, [1]),), ["a"]), ("y", "scale", (2, 1), ["x"])])

    def test_wrong_arguments(self):
        net = pair(("take", (1,)), ("take", (1,)))
        for value in [*strange_values(), "take", "Takes", ["takes"], 0]:
            for ask in (lambda: sites(net, value), lambda: applied(net, value, "y"), lambda: applied(net, value, 5),
                        lambda: keeps(net, value, "y"), lambda: keeps(net, value, None)):
                with self.assertRaises(InvalidRule) as caught:
                    ask()
                self.assertIs(caught.exception.rule, value)
        for value in [*strange_values(), "a", "x", "w", ["y"], 0]:
            for call in (applied, keeps):
                with self.assertRaises(InvalidName) as caught:
                    call(net, "takes", value)
                self.assertIs(caught.exception.name, value)
        self.assertEqual(applied(name="y", rule="takes", net=net), applied(net, "takes", "y"))
        self.assertEqual((keeps(name="y", rule="takes", net=net), sites(rule="takes", net=net)), ((True, True), ["y"]))


class KeepsTest(unittest.TestCase):

    def test_the_exceptions(self):
        for n in range(4):
            for m in range(4):
                wanted = not 1 <= m <= n
                self.assertEqual(keeps(pair(("drop", (n,)), ("take", (m,))), "early", "y"), (True, wanted), ("early", n, m))
                wanted = n > 0 or m == 0
                self.assertEqual(keeps(pair(("take", (n,)), ("drop", (m,))), "late", "y"), (True, wanted), ("late", n, m))

    def test_errors_and_no_answer_in_the_exceptions(self):
        lower = [COUNT, ("f", "fault", (0, "net"), ["a"]), ("x", "take", (1,), ["f"]), ("y", "drop", (1,), ["x"])]
        self.assertEqual(keeps(Net(lower), "early", "y"), (False, False))
        lower = [COUNT, ("f", "keep", (("below", 0),), ["a"]), ("x", "take", (1,), ["f"]), ("y", "drop", (1,), ["x"])]
        self.assertEqual(keeps(Net(lower), "early", "y")[0], False)
        lower = [COUNT, ("f", "keep", (("below", 0),), ["a"]), ("x", "drop", (1,), ["f"]), ("y", "take", (0,), ["x"])]
        self.assertEqual(keeps(Net(lower), "late", "y")[0], False)

    def test_the_limit(self):
        heavy = Net([("a", "ring", ([1] * 71,), []), ("x", "take", (3,), ["a"]), ("y", "take", (2,), ["x"])])
        with self.assertRaises(LimitExceeded) as caught:
            keeps(heavy, "takes", "y")
        self.assertEqual(caught.exception.limit, 10000)
        with self.assertRaises(InvalidName):
            keeps(heavy, "takes", "x")
        light = Net([("a", "ring", ([1] * 70,), []), ("x", "take", (3,), ["a"]), ("y", "take", (2,), ["x"])])
        self.assertEqual(keeps(light, "takes", "y"), (True, True))

    def pulled(self, net, outlet, many):
        """Return results, and the reads behind each, of an outlet that is pulled alone."""
        plain = PlainMachine(net.node_list(), 400)
        found = []
        for _ in range(many):
            result = plain.pull(outlet)
            if result[0] == "never":
                return found, True
            reads = {name: plain.reads(name) for name, kind, _, _ in net.node_list() if kind in ("count", "span", "row", "ring")}
            found.append((result, reads))
        return found, False

    def test_drawn_nets(self):
        done = {rule: 0 for rule in NINE}
        for seed in range(900):
            draw = random.Random(seed)
            net = ruled_net(draw)
            for rule in NINE:
                for name in sites(net, rule):
                    behind = applied(net, rule, name)
                    where = (seed, net.node_list(), rule, name)
                    n, m = net[name][2][:1], net[net[name][3][0]][2][:1]
                    free = not (rule == "early" and 1 <= m[0] <= n[0] or rule == "late" and n[0] == 0 and m[0] > 0)
                    self.assertEqual(outlets(behind), outlets(net), where)
                    same = [self.pulled(net, outlet, 60) == self.pulled(behind, outlet, 60) for outlet in outlets(net)]
                    try:
                        kept = keeps(net, rule, name)
                    except LimitExceeded:
                        kept = None
                    if free:
                        self.assertTrue(all(same), where)
                        self.assertIn(kept, (None, (True, True)), where)
                    elif not all(same):
                        self.assertNotEqual(kept, (True, True), where)
                    done[rule] += 1
        self.assertGreater(min(done.values()), 10)

    def test_far_out(self):
        done = 0
        for seed in range(300):
            draw = random.Random(3000 + seed)
            net = far_parameters(draw, ruled_net(draw))
            for rule in ("scales", "takes", "drops", "steps", "keeps", "sink", "rise"):
                for name in sites(net, rule):
                    behind = applied(net, rule, name)
                    if load(net, 1) <= 100:
                        self.assertEqual(keeps(net, rule, name), (True, True), (seed, net.node_list(), rule, name))
                    for outlet in outlets(net):
                        machines = [Machine(net), Machine(behind)]
                        found = [machine.pull_times(outlet, 10 ** 26) for machine in machines]
                        if found[0][2][0] == "never":
                            found = [answer[:2] for answer in found]
                        self.assertEqual(*found, (seed, net.node_list(), rule, name))
                        if machines[0].stuck() is None:
                            self.assertEqual(machines[0].reads("a"), machines[1].reads("a"))
                    done += 1
        self.assertGreater(done, 100)


class NormalTest(unittest.TestCase):

    def test_the_example(self):
        net = Net([COUNT, ("x", "scale", (2, 1), ["a"]), ("y", "scale", (5, 0), ["x"]), ("z", "keep", (("below", 50),), ["y"])])
        self.assertEqual(len(normal(net)), 3)
        self.assertEqual(normal(normal(net)), normal(net))

    def test_drawn_orders(self):
        shorter = 0
        for seed in range(300):
            draw = random.Random(seed)
            kinds = [draw.choice((("scale", (draw.randint(-3, 3), 1)), ("take", (draw.randint(0, 9),)), ("drop", (draw.randint(0, 9),)),
                                  ("step", (draw.randint(1, 4),)))) for _ in range(draw.randint(1, 7))]
            kinds = [kind for kind in kinds for _ in range(draw.randint(1, 3))][:12]
            kinds = [kind for at, kind in enumerate(kinds) if kind[0] != "step" or sum(one[0] == "step" for one in kinds[:at]) < 3]
            kinds = [kind for at, kind in enumerate(kinds) if kind[0] != "drop" or sum(one[0] in ("step", "drop")
                                                                                       for one in kinds[:at]) < 4]
            nodes = [COUNT]
            for name, (kind, parameters) in zip("bcdefghijklmn", kinds):
                nodes.append((name, kind, parameters, [nodes[-1][0]]))
            try:
                net = Net(nodes)
            except LimitExceeded:
                continue
            found = net
            while True:
                free = [(rule, name) for rule in ("scales", "takes", "drops", "steps") for name in sites(found, rule)]
                if not free:
                    break
                found = applied(found, *draw.choice(free))
            self.assertEqual(normal(net), found, (seed, nodes))
            self.assertEqual(net.node_list(), nodes)
            shorter += len(found) < len(net)
        self.assertGreater(shorter, 200)

    def test_the_order_of_the_words_and_sites(self):
        big = FAR // 2
        # Of three drops two fit together, but not all: the first site is taken.
        net = Net([COUNT, ("b", "drop", (big,), ["a"]), ("c", "drop", (big,), ["b"]), ("d", "drop", (1,), ["c"])])
        self.assertEqual(normal(net).node_list(), [COUNT, ("c", "drop", (FAR,), ["a"]), ("d", "drop", (1,), ["c"])])
        net = Net([COUNT, ("b", "scale", (10 ** 20, 0), ["a"]), ("c", "scale", (10 ** 20, 0), ["b"]), ("d", "scale", (3, 0), ["c"]),
                   ("e", "scale", (10 ** 9, 0), ["d"])])
        self.assertEqual([node[2] for node in normal(net).node_list()[1:]], [(10 ** 20, 0), (3 * 10 ** 29, 0)])


class TellingTest(unittest.TestCase):

    def test_the_examples(self):
        one, other = ("take", (1,)), ("keep", (("below", 1),))
        self.assertEqual(telling_row([one, other], [other, one], [0, 1], 3), ([1, 0], 0))
        self.assertEqual(telling_reads([("take", (1,)), ("drop", (1,))], [("drop", (1,)), ("take", (0,))], [0], 2), ([], 0))
        self.assertIs(telling_row([one, one], [one], [3, 1], 8), None)
        self.assertIs(telling_row([], [], [5], 8), None)
        self.assertEqual(telling_row([], [one], [7], 8), ([7, 7], 1))
        self.assertEqual(telling_reads([], [("scale", (1, 0))], [7], 8), None)
        # The end is a read that counts.
        self.assertEqual(telling_reads([], [("take", (0,))], [7], 0), ([], 0))

    def brute(self, one, other, items, most, what):
        """Return the first row that tells two chains apart by results or reads, tried one by one."""
        for many in range(most + 1):
            for row in itertools.product(items, repeat=many):
                found = []
                for chain in (one, other):
                    nodes = [("a", "row", (list(row),), [])]
                    for name, (kind, parameters) in zip("bcdefg", chain):
                        nodes.append((name, kind, parameters, [nodes[-1][0]]))
                    plain = PlainMachine(nodes)
                    pulls = []
                    for _ in range(60 if len(chain) < 3 else 90):
                        result = plain.pull(nodes[-1][0])
                        pulls.append(result if what == "row" else plain.reads("a"))
                    found.append(pulls)
                for number, (left, right) in enumerate(zip(*found)):
                    if left != right:
                        return list(row), number
        return None

    def chain(self, draw, most):
        kinds = ["scale", "table", "keep", "until", "after", "take", "drop", "step", "batch", "pairs", "heads", "lengths", "stutter",
                 "ahead", "fault", "dying", "calm", "closing"]
        return [(kind, parameters_of(draw, kind)) for kind in draw.choices(kinds, k=draw.randint(0, most))]

    def test_against_all_rows(self):
        found = {"row": 0, "reads": 0, None: 0}
        for seed in range(500):
            draw = random.Random(seed)
            one = self.chain(draw, 3)
            other = self.chain(draw, 3)
            if one and draw.random() < 0.7:
                other = list(one)
                at = draw.randrange(len(one))
                pick = draw.random()
                if pick < 0.4:
                    draw.shuffle(other)
                else:
                    other[at] = (one[at][0], parameters_of(draw, one[at][0]))
            items = draw.sample(range(-3, 9), draw.randint(1, 3))
            most = draw.randint(0, 4 if len(items) < 3 else 3)
            for call, what in ((telling_row, "row"), (telling_reads, "reads")):
                try:
                    answer = call(one, other, items, most)
                except LimitExceeded:
                    continue
                self.assertEqual(answer, self.brute(one, other, items, most, what), (seed, one, other, items, most, what))
                found[what if answer else None] += 1
        self.assertGreater(min(found.values()), 40)

    def test_wrong_arguments(self):
        link = ("take", (1,))
        chains = [None, "take", (link,), [link] * 7, [("take", [1])], [["take", (1,)]], [("take",)], [("count", (0, 1))],
                  [("split", ())], [("zip", ("sum",))], [("chain", ())], [("take", (-1,))], [("take", (True,))], [link, None], [("x", ())],
                  {}, *[value for value in strange_values() if not isinstance(value, list)], [1]]
        lists = [None, [], (1,), [1] * 2, list(range(9)), [True], [FAR + 1], ["1"], [[1]], {1: 2}, "a"]
        mosts = [None, True, -1, 9, "1", [1], FAR]
        wrong = [chains, chains, lists, mosts]
        right = [[link], [link, link], [1, 2], 3]
        for call in (telling_row, telling_reads):
            for at, values in enumerate(wrong):
                for value in values:
                    for behind in (right, [None] * 4):
                        with self.assertRaises(InvalidRecord) as caught:
                            call(*right[:at], value, *behind[at + 1:])
                        self.assertEqual(caught.exception.at, at, (value, behind))
            self.assertEqual(call(most=3, items=[1, 2], other=[link], one=[link]), None)

    def test_limits(self):
        heavy = [("table", ([1] * 100,)), ("table", ([1] * 3,))]
        for call in (telling_row, telling_reads):
            for many, most, fits in ((2, 8, True), (3, 5, True), (3, 6, False), (8, 3, True), (8, 4, False), (5, 4, True), (6, 4, False),
                                     (1, 8, True)):
                ask = lambda one: call(one, [], list(range(many)), most)
                if fits:
                    self.assertIs(ask([]), None)
                    with self.assertRaises(LimitExceeded) as caught:
                        ask(heavy)
                    self.assertEqual(caught.exception.limit, 200)
                else:
                    with self.assertRaises(LimitExceeded) as caught:
                        ask(heavy)
                    self.assertEqual(caught.exception.limit, 1000)
            with self.assertRaises(LimitExceeded) as caught:
                call([], [("heads", ())] * 6, [1], 1)
            self.assertEqual(caught.exception.limit, 10000)
            with self.assertRaises(LimitExceeded) as caught:
                call(heavy, [("heads", ())] * 6, [1], 1)
            self.assertEqual(caught.exception.limit, 200)

    def test_in_time_and_nothing_is_changed(self):
        one = [("ahead", (20,)), ("stutter", (20,)), ("fault", (FAR, "net")), ("scale", (FAR, -FAR)), ("pairs", ()), ("heads", ())]
        items = [FAR, -FAR, 0, 5, 7, 9, 11, 12]
        begun = time.monotonic()
        for call in (telling_row, telling_reads):
            self.assertIs(call(one, list(one), items, 3), None)
        self.assertLess(time.monotonic() - begun, 10)
        self.assertEqual((len(one), items), (6, [FAR, -FAR, 0, 5, 7, 9, 11, 12]))
        row, number = telling_row([("take", (2,))], [], items, 3)
        row.append(1)
        self.assertEqual(telling_row([("take", (2,))], [], items, 3), ([FAR] * 3, 2))


if __name__ == "__main__":
    unittest.main()
