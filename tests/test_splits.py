"""Points [34] to [38]: ports, places and sizes, by hand, by formulas, and against the plain machine."""

import itertools
import random
import unittest

from drawing import drawn_net, drawn_steps, splitting_net, unrolled
from makers import FAR
from plain import PlainMachine
from recording import done

from pullworks.errors import InvalidCall, LimitExceeded
from pullworks.nets import Net, outlets
from pullworks.schedules import check_schedule, run
from pullworks.splits import (best_order, endless_size, first_above, greatest_size, order_size, places, ports,
                              pulls_within)

TWO = [("a", "count", (0, 1), []), ("s", "split", (), ["a"]), ("l", "scale", (1, 0), ["s"]),
       ("r", "keep", (("mod", 2, [0]),), ["s"])]

FAST = [("pull", "l", 3), ("pull", "r", 1)]


def two():
    return Net(TWO)


def deep():
    """Return a net with a split above a split, and a user with two ports."""
    return Net([("a", "count", (0, 1), []), ("s", "split", (), ["a"]), ("t", "split", (), ["s"]), ("l", "scale", (1, 0), ["t"]),
                ("m", "step", (2,), ["t"]), ("z", "zip", ("sum",), ["s", "t"]), ("r", "drop", (5,), ["s"])])


def longer(draw, steps):
    """Return steps some numbers of which are greater."""
    found = []
    for step in steps:
        if step[0] == "repeat":
            found.append(("repeat", draw.choice((step[1], draw.randint(0, 30))), longer(draw, step[2])))
        elif step[0] == "pull":
            found.append(("pull", step[1], draw.choice((step[2], step[2], draw.randint(0, 30)))))
        else:
            found.append(step)
    return found


def drawn_cases(seeds, most=1500):
    """Yield (seed, net, steps) with splits and within the limits."""
    for seed in seeds:
        draw = random.Random(seed)
        net = splitting_net(draw) if draw.random() < 0.7 else drawn_net(draw, 7)
        steps = longer(draw, drawn_steps(draw, outlets(net)))
        if len(list(itertools.islice(unrolled(steps), most + 1))) > most:
            continue
        try:
            check_schedule(net, steps)
        except LimitExceeded:
            continue
        yield seed, net, steps


class HandTest(unittest.TestCase):

    def test_ports_in_their_order(self):
        self.assertEqual(ports(two(), "s"), [("l", 0), ("r", 0)])
        self.assertEqual(ports(deep(), "s"), [("t", 0), ("z", 0), ("r", 0)])
        self.assertEqual(ports(deep(), "t"), [("l", 0), ("m", 0), ("z", 1)])
        net = Net([*TWO[:2], ("z", "zip", ("sum",), ["s"] * 4), ("y", "dying", (), ["s"])])
        self.assertEqual(ports(net, "s"), [("z", 0), ("z", 1), ("z", 2), ("z", 3), ("y", 0)])

    def test_places(self):
        self.assertEqual(places(two(), FAST, "s"), [3, 1])
        self.assertEqual(places(two(), [], "s"), [0, 0])
        self.assertEqual(places(two(), [("repeat", FAR, FAST)], "s"), [3 * FAR, 2 * FAR - 1])
        self.assertEqual(places(two(), [*FAST, ("close", "l"), ("pull", "r", 9)], "s"), [3, 19])
        self.assertEqual(places(deep(), [("pull", "r", 1), ("pull", "l", 2), ("pull", "m", 3)], "s"), [5, 0, 6])
        self.assertEqual(places(deep(), [("pull", "r", 1), ("pull", "l", 2), ("pull", "m", 3)], "t"), [2, 5, 0])

    def test_the_end_is_not_counted(self):
        net = Net([("a", "row", ([1, 2],), []), *TWO[1:]])
        self.assertEqual(places(net, [("pull", "l", 2)], "s"), [2, 0])
        self.assertEqual(places(net, [("pull", "l", 9), ("pull", "r", 9)], "s"), [2, 2])
        self.assertEqual(greatest_size(net, [("pull", "l", 9)], "s"), (2, 1))
        self.assertEqual(endless_size(net, [("pull", "l", 1)], "s"), ("most", 2))

    def test_greatest_size(self):
        self.assertEqual(greatest_size(two(), [], "s"), (0, None))
        self.assertEqual(greatest_size(two(), [("close", "l"), ("pull", "l", 5)], "s"), (0, None))
        self.assertEqual(greatest_size(two(), FAST, "s"), (3, 2))
        for rounds in (1, 2, 7, 10 ** 20, FAR):
            steps = [("repeat", rounds, FAST)]
            wanted = (3, 2) if rounds == 1 else (rounds + 3, 4 * rounds - 2)
            self.assertEqual(greatest_size(two(), steps, "s"), wanted if rounds > 1 else (3, 2))
        self.assertEqual(greatest_size(two(), [("pull", "l", FAR), ("close", "l"), ("pull", "r", 1)], "s"), (FAR, FAR - 1))

    def test_repeats_within_repeats(self):
        many = 10 ** 20
        inner = [("repeat", many, [("pull", "l", 1)]), ("repeat", many, [("pull", "r", 1)])]
        # "r" reads two for each one of "l", but for its first read.
        self.assertEqual(greatest_size(two(), inner, "s"), (many, many - 1))
        self.assertEqual(greatest_size(two(), [("repeat", many, inner)], "s"), (many ** 2 - 1, 2 * many ** 2 - 1))
        steps = [("repeat", many, [("repeat", many, FAST), ("pull", "l", many)])]
        left = (3 * many + many) * many
        self.assertEqual(greatest_size(two(), steps, "s"), (left - 2 * many * many + 1, (4 * many + many) * many - 1))
        # Each round of the outer repeat adds 2 * many: "l" is given 4 * many, "r" reads 2 * many, but for its first read.
        bound = 10 ** 30
        rounds = (bound - 1) // (2 * many)
        number = first_above(two(), steps, "s", bound)
        self.assertEqual(number // (5 * many), rounds)
        self.assertEqual(greatest_size(two(), [("repeat", rounds, steps[0][2])], "s")[0] <= bound, True)

    def test_first_above(self):
        self.assertEqual(first_above(two(), [("repeat", 10, FAST)], "s", 4), 6)
        self.assertEqual([first_above(two(), [("repeat", FAR, FAST)], "s", bound) for bound in (0, 1, 2, 3, 4)], [0, 1, 2, 5, 6])
        self.assertIs(first_above(two(), FAST, "s", 3), None)
        self.assertIs(first_above(two(), [], "s", 0), None)
        # In round k the size is k + 3 behind the third pull, for k from 1 on k + 4.
        self.assertEqual(first_above(two(), [("repeat", FAR, FAST)], "s", FAR), 4 * (FAR - 3) + 2)

    def test_closes_do_not_count(self):
        steps = [("pull", "l", 4), ("close", "l"), ("pull", "l", 5), ("pull", "r", 4)]
        # When "l" is closed, nothing that "r" has not read is ahead of it but these four.
        self.assertEqual(greatest_size(two(), steps, "s"), (4, 3))
        self.assertEqual(greatest_size(two(), [("pull", "r", 2), ("close", "r"), *steps[:1]], "s"), (3, 1))
        net = deep()
        steps = [("close", "r"), ("close", "m"), ("pull", "z", 1), ("close", "z"), ("pull", "l", 7)]
        self.assertEqual([greatest_size(net, steps, name) for name in "st"], [(0, None), (1, 0)])

    def test_a_pull_that_is_never_answered(self):
        net = Net([("a", "count", (0, 1), []), ("s", "split", (), ["a"]), ("l", "keep", (("below", 5),), ["s"]),
                   ("r", "scale", (1, 0), ["s"])])
        steps = [("pull", "l", 3), ("repeat", 5, [("pull", "r", 1), ("pull", "l", 1)])]
        self.assertEqual(greatest_size(net, steps, "s"), (3, 2))
        self.assertIs(first_above(net, steps, "s", 3), None)
        for ask in (lambda: places(net, steps, "s"), lambda: pulls_within(net, steps, "s", "r", 5)):
            with self.assertRaises(InvalidCall) as caught:
                ask()
            self.assertEqual(caught.exception.call, "stuck")
        self.assertEqual(endless_size(net, [("pull", "r", 1)], "s"), ("grows", 1, 1))
        self.assertEqual(endless_size(net, [("pull", "l", 1)], "s"), ("never", "l"))
        self.assertEqual(endless_size(net, [("pull", "l", 1), ("close", "l"), ("pull", "r", 1)], "s"), ("most", 1))
        self.assertEqual(pulls_within(net, [], "s", "l", 9), 5)
        self.assertEqual(pulls_within(net, [], "s", "l", 3), 3)
        self.assertEqual(pulls_within(net, [("pull", "l", 5)], "s", "l", 3), 0)
        self.assertEqual(order_size(net, "s", ["l"] * 5), 5)
        self.assertIs(order_size(net, "s", ["l"] * 6), None)
        self.assertIs(best_order(net, "s", [("l", 6), ("r", 1)]), None)
        self.assertEqual(best_order(net, "s", [("l", 5), ("r", 5)])[0], 1)

    def test_pulls_within(self):
        self.assertEqual(pulls_within(two(), FAST, "s", "l", 9), 7)
        self.assertEqual(pulls_within(two(), FAST, "s", "l", FAR), FAR - 2)
        self.assertEqual(pulls_within(two(), [("pull", "l", FAR)], "s", "r", 0), 0)
        self.assertEqual(pulls_within(two(), [("pull", "l", 9)], "s", "r", 8), (9 + 8 + 1) // 2)
        self.assertEqual(pulls_within(two(), [("pull", "l", 9)], "s", "r", 7), 0)
        # A size above the bound ahead of the pulls does not matter.
        self.assertEqual(pulls_within(two(), [("pull", "l", 2)], "s", "r", 1), 2)
        self.assertIs(pulls_within(two(), [("close", "r")], "s", "l", 0), None)
        self.assertIs(pulls_within(two(), [("pull", "r", 3), ("close", "r")], "s", "r", 5), None)
        self.assertEqual(pulls_within(two(), [("pull", "r", 3), ("close", "r")], "s", "r", 4), 0)
        ended = Net([("a", "row", ([1, 2, 3],), []), *TWO[1:]])
        self.assertIs(pulls_within(ended, [], "s", "l", 3), None)
        self.assertEqual(pulls_within(ended, [], "s", "l", 2), 2)
        faulty = Net([*TWO[:2], ("l", "fault", (10 ** 20, "net"), ["s"]), ("m", "dying", (), ["l"]), ("r", "heads", (), ["s"])])
        self.assertIs(pulls_within(faulty, [], "s", "m", 10 ** 20), None)
        self.assertEqual(pulls_within(faulty, [], "s", "m", 10 ** 20 - 1), 10 ** 20 - 1)

    def test_endless_size(self):
        self.assertEqual(endless_size(two(), FAST, "s"), ("grows", 1, 1))
        self.assertEqual(endless_size(two(), [("pull", "l", 2), ("pull", "r", 1)], "s"), ("most", 3))
        self.assertEqual(endless_size(two(), [], "s"), ("most", 0))
        self.assertEqual(endless_size(two(), [("close", "l"), ("pull", "l", 0), ("repeat", 0, FAST)], "s"), ("most", 0))
        self.assertEqual(endless_size(two(), [("repeat", 3, FAST), ("pull", "l", 4)], "s"), ("grows", 7, 1))
        self.assertEqual(endless_size(two(), [("pull", "l", 5), ("close", "l"), ("pull", "r", 2)], "s"), ("most", 5))
        stutter = Net([*TWO[:3], ("r", "stutter", (3,), ["s"])])
        self.assertEqual(endless_size(stutter, [("pull", "r", 1)], "s"), ("grows", 1, 3))
        self.assertEqual(endless_size(stutter, [("pull", "r", 2)], "s"), ("grows", 2, 3))
        twice = Net([*TWO[:3], ("r", "stutter", (2,), ["s"])])
        self.assertEqual(endless_size(twice, [("pull", "r", 2)], "s"), ("grows", 1, 1))
        # By 0 and 2 in turns.
        pairs = Net([*TWO[:2], ("l", "stutter", (2,), ["s"]), ("r", "scale", (1, 0), ["s"]), ("m", "step", (2,), ["r"])])
        self.assertEqual(endless_size(pairs, [("pull", "l", 1)], "s"), ("grows", 1, 2))
        drop = Net([*TWO[:3], ("r", "drop", (FAR,), ["s"])])
        self.assertEqual(endless_size(drop, [("pull", "l", 1), ("pull", "r", 1)], "s"), ("most", FAR))
        self.assertEqual(endless_size(drop, [("pull", "l", 2), ("pull", "r", 1)], "s"), ("grows", 1, 1))

    def test_orders(self):
        self.assertEqual(order_size(two(), "s", []), 0)
        self.assertEqual(order_size(two(), "s", ["r", "l", "l", "r"]), 1)
        self.assertEqual(order_size(two(), "s", ["l", "l", "l"]), 3)
        self.assertEqual(order_size(two(), "s", ["l"] * 1000), 1000)
        size, order = best_order(two(), "s", [("l", 6), ("r", 3)])
        self.assertEqual((size, sorted(order), order_size(two(), "s", order)), (1, ["l"] * 6 + ["r"] * 3, 1))
        self.assertEqual(best_order(two(), "s", []), (0, []))
        self.assertEqual(best_order(two(), "s", [("r", 0), ("l", 0)]), (0, []))
        self.assertEqual(best_order(two(), "s", [("l", 0), ("r", 2)]), (3, ["r", "r"]))
        size, order = best_order(two(), "s", [("l", 999), ("r", 0)])
        self.assertEqual((size, order), (999, ["l"] * 999))
        size, order = best_order(two(), "s", [("l", 60), ("r", 15)])
        self.assertEqual(order_size(two(), "s", order), size)
        self.assertEqual((order.count("l"), order.count("r"), size), (60, 15, 31))


class PlainTest(unittest.TestCase):

    def test_sizes_against_the_plain_machine(self):
        for seed, net, steps in drawn_cases(range(350)):
            recorder = done(net, steps)
            for split, sizes in recorder.sizes.items():
                most = max(sizes, default=0)
                wanted = (most, sizes.index(most)) if most else (0, None)
                self.assertEqual(greatest_size(net, steps, split), wanted, (seed, net.node_list(), steps))
                for bound in {0, most // 2, max(0, most - 1), most}:
                    first = next((at for at, size in enumerate(sizes) if size > bound), None)
                    self.assertEqual(first_above(net, steps, split, bound), first, (seed, net.node_list(), steps, bound))
                if recorder.stop is None:
                    wanted = [recorder.indexes[port] for port in ports(net, split)]
                    self.assertEqual(places(net, steps, split), wanted, (seed, steps))

    def test_pulls_within_against_the_plain_machine(self):
        found = 0
        for seed, net, steps in drawn_cases(range(1000, 1250), 300):
            draw = random.Random(seed)
            recorder = done(net, steps)
            outlet, bound = draw.choice(outlets(net)), draw.randint(0, 9)
            if recorder.stop is not None or not recorder.splits:
                continue
            split = draw.choice(recorder.splits)
            wanted, many = 40, 0
            while many < 40:
                if recorder.pull(outlet)[0] == "never" or recorder.buffer(split) > bound:
                    wanted = many
                    break
                many += 1
            answer = pulls_within(net, steps, split, outlet, bound)
            if many < 40:
                self.assertEqual(answer, wanted, (seed, net.node_list(), steps, outlet, bound))
                found += 1
            else:
                self.assertTrue(answer is None or answer >= 40, (seed, net.node_list(), steps, outlet, bound))
        self.assertGreater(found, 60)

    def test_endless_sizes_against_many_rounds(self):
        kinds = {"grows": 0, "most": 0, "never": 0}
        for seed, net, steps in drawn_cases(range(2000, 2900), 40):
            for split in done(net, []).splits:
                try:
                    answer = endless_size(net, steps, split)
                except LimitExceeded:
                    continue
                kinds[answer[0]] += 1
                where = (seed, net.node_list(), steps, split, answer)
                if any(step[0] == "repeat" and any(inner[0] == "repeat" for inner in step[2]) for step in steps):
                    continue
                if answer[0] == "never":
                    self.assertEqual(run(net, [("repeat", FAR, steps)]).stuck(), answer[1], where)
                    continue
                if all(step[0] == "close" for step in steps):
                    self.assertEqual(answer, ("most", 0), where)
                    continue
                # Far out, a period is a part of so many rounds.
                sizes = [run(net, [("repeat", 10 ** 20 + rounds, steps)]).buffer(split) for rounds in (0, 27720, 55440)]
                top, bottom = (0, 1) if answer[0] == "most" else answer[1:]
                self.assertEqual(27720 % bottom, 0, where)
                self.assertEqual(sizes[1] - sizes[0], 27720 // bottom * top, where)
                self.assertEqual(sizes[2] - sizes[1], 27720 // bottom * top, where)
                if answer[0] == "most":
                    self.assertEqual(greatest_size(net, [("repeat", 10 ** 20, steps)], split)[0], answer[1], where)
        self.assertGreater(min(kinds.values()), 10)

    def test_orders_against_all_orders(self):
        for seed in range(150):
            draw = random.Random(3000 + seed)
            net = splitting_net(draw)
            names = draw.sample(outlets(net), min(len(outlets(net)), draw.randint(1, 3)))
            goals = [(name, draw.randint(0, 3)) for name in names]
            pulls = [name for name, many in goals for _ in range(many)]
            split = draw.choice([node[0] for node in net.node_list() if node[1] == "split"])
            found = {}
            for order in set(itertools.permutations(pulls)) if len(pulls) < 7 else [tuple(pulls)]:
                recorder = PlainMachine(net.node_list(), 300)
                sizes = [0]
                for name in order:
                    if recorder.pull(name)[0] == "never":
                        sizes = None
                        break
                    sizes.append(recorder.buffer(split))
                found[order] = None if sizes is None else max(sizes)
                self.assertEqual(order_size(net, split, list(order)), found[order], (seed, net.node_list(), order))
            answer = best_order(net, split, goals)
            if None in found.values():
                self.assertIs(answer, None)
            else:
                self.assertEqual(sorted(answer[1]), sorted(pulls))
                self.assertEqual(order_size(net, split, answer[1]), answer[0])
                if len(pulls) < 7:
                    self.assertEqual(answer[0], min(found.values()), (seed, net.node_list(), goals))


class FarTest(unittest.TestCase):

    def far(self, draw, steps):
        found = []
        for step in steps:
            if step[0] == "repeat":
                found.append(("repeat", draw.choice((step[1], 10 ** 12, 10 ** 14 + 7, 12345)), self.far(draw, step[2])))
            elif step[0] == "pull":
                found.append(("pull", step[1], draw.choice((step[2], step[2], step[2], 1000, 10 ** 9))))
            else:
                found.append(step)
        return found

    def apart(self, draw, steps):
        """Return steps in which each repeat of the schedule is put apart into two."""
        found = []
        for step in steps:
            if step[0] == "repeat" and step[1] > 1:
                many = draw.choice((1, 2, step[1] // 2, step[1] - 1))
                found += [("repeat", many, step[2]), ("repeat", step[1] - many, step[2])]
            else:
                found.append(step)
        return found

    def test_far_sizes(self):
        far = 0
        for seed in range(1500):
            draw = random.Random(5000 + seed)
            net = splitting_net(draw)
            steps = self.far(draw, drawn_steps(draw, outlets(net)))
            try:
                check_schedule(net, steps)
            except LimitExceeded:
                continue
            parts = self.apart(draw, steps)
            for split in [node[0] for node in net.node_list() if node[1] == "split"]:
                where = (seed, net.node_list(), steps, split)
                size, number = greatest_size(net, steps, split)
                self.assertEqual(greatest_size(net, parts, split), (size, number), where)
                if size > FAR:
                    continue
                far += size > 10 ** 6
                self.assertIs(first_above(net, steps, split, size), None, where)
                if size == 0:
                    continue
                self.assertEqual(first_above(net, steps, split, size - 1), number, where)
                bound = draw.randint(0, size - 1)
                first = first_above(net, steps, split, bound)
                self.assertLessEqual(first, number, where)
                self.assertEqual(first_above(net, parts, split, bound), first, where)
        self.assertGreater(far, 100)

    def test_crossings_in_each_round(self):
        # Two outlets over one port pass each other in each round, and far out the other port lags behind both.
        net = Net([("a", "count", (0, 1), []), ("s", "split", (), ["a"]), ("t", "split", (), ["s"]), ("l", "scale", (1, 0), ["t"]),
                   ("m", "scale", (1, 0), ["t"]), ("r", "scale", (1, 0), ["s"])])
        many = 10 ** 12
        steps = [("repeat", 10 ** 9, [("pull", "l", many), ("pull", "m", many + 1), ("pull", "r", many)])]
        self.assertEqual(greatest_size(net, steps, "s"), (many + 10 ** 9, (10 ** 9 - 1) * (3 * many + 1) + 2 * many))
        size, number = greatest_size(net, steps, "t")
        self.assertEqual((size, first_above(net, steps, "t", size - 1)), (many, number))
        self.assertEqual(endless_size(net, steps, "s"), ("grows", 10 ** 9, 1))


if __name__ == "__main__":
    unittest.main()
