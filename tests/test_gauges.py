"""Points [3] and [34]: what ports are given behind each pull on an outlet, where ways overtake each other, too."""

import random
import unittest
from unittest import mock

from drawing import drawn_net, drawn_steps, overtaking_net, splitting_net, unrolled
from makers import FAR
from recording import done

from pullworks.comparing import first_read_difference
from pullworks.demands import dearest
from pullworks.errors import LimitExceeded
from pullworks.gauges import Gauge, fewest_lines
from pullworks.lines import value_at
from pullworks.nets import Net, outlets
from pullworks.plans import plan_of
from pullworks.schedules import check_schedule
from pullworks.splits import first_above, greatest_size, places


def mixing_net(draw, far):
    """Return a net of a split above a split, with two or three outlets over the upper one."""
    nodes = [("a", "count", (0, 1), []), ("s", "split", (), ["a"])]
    top = "s"
    if draw.random() < 0.3:
        kind, parameters = draw.choice((("step", (2,)), ("drop", (draw.randint(1, 60),)), ("stutter", (2,)),
                                        ("keep", (("mod", 3, [0, 1]),))))
        nodes.append(("b", kind, parameters, ["s"]))
        top = "b"
    nodes.append(("t", "split", (), [top]))
    for name in ("l", "m", "r") if draw.random() < 0.7 else ("l", "m", "n", "r"):
        kind, parameters = draw.choice((("scale", (1, 0)), ("scale", (1, 0)), ("step", (2,)), ("drop", (draw.randint(1, far),)),
                                        ("stutter", (2,)), ("ahead", (draw.randint(1, 20),))))
        nodes.append((name, kind, parameters, ["s" if name == "r" else "t"]))
    try:
        net = Net(nodes)
        check_schedule(net, [("repeat", 1, [("repeat", 1, [("pull", "l", 1)])])])
        return net
    except LimitExceeded:
        return mixing_net(draw, far)


def mixing_steps(draw, names, many):
    """Return steps that pull each outlet about the same far number of times, so that they overtake each other."""
    each = draw.randint(1, 3)
    steps = []
    for name in draw.sample(names, len(names)):
        if draw.random() < 0.7:
            steps.append(("repeat", many, [("pull", name, max(1, each + draw.choice((0, 0, 0, 0, 1, -1))))]))
        else:
            steps.append(("pull", name, many * each + draw.randint(-3, 3)))
        if draw.random() < 0.5:
            steps.append(("pull", draw.choice(names), draw.randint(1, 3)))
    return steps


class GaugeTest(unittest.TestCase):

    def given(self, plan, gauge, outlet, pulls):
        """Return what the ports have been given, by the tapes of all nodes between."""
        end = plan.tapes[gauge.split].stop("end")
        counts = plan.pulls_within({name: pulls if name == outlet else 0 for name in plan.outlets})
        found = [plan.pulls_by(user, place, counts) for user, place in gauge.ports]
        return found if end is None else [min(many, end) for many in found]

    def test_courses_against_the_tapes(self):
        done_ports = 0
        for seed in range(700):
            draw = random.Random(seed)
            net = draw.choice((overtaking_net, overtaking_net, splitting_net, drawn_net))(draw)
            plan = plan_of(net)
            for split in [node[0] for node in net.node_list() if node[1] == "split"]:
                gauge = Gauge(plan, split)
                for outlet in gauge.courses:
                    never = plan.tapes[outlet].stop("never")
                    for pulls in [*range(0, 150, 1 + seed % 3), *[draw.randint(0, top) for top in (10 ** 3, 10 ** 6, FAR, FAR)]]:
                        if never is not None and pulls > never:
                            continue
                        found = gauge.heights(outlet, pulls)
                        self.assertEqual(found, self.given(plan, gauge, outlet, pulls), (seed, net.node_list(), outlet, pulls))
                    done_ports += 1
        self.assertGreater(done_ports, 800)

    def test_fewest_lines(self):
        self.assertEqual(fewest_lines(None, [(3, 4), (5, 4)]), [(3, 2)])
        self.assertEqual(fewest_lines(None, [(3, 4), (4, 4)]), [(3, 4), (4, 4)])
        self.assertEqual(fewest_lines(3, [(3, 0), (4, 0), (5, 0)]), [(3, 1)])
        self.assertEqual(fewest_lines(3, [(3, 0), (4, 0), (6, 0)]), [(3, 0), (4, 0), (6, 0)])
        self.assertEqual(fewest_lines(1, [(3, 0)]), [(3, 0)])
        for seed in range(300):
            draw = random.Random(seed)
            lines = [(draw.randint(0, 2), draw.randint(0, 2)) for _ in range(draw.randint(1, 3))]
            wide = [(value + turn * growth, 3 * growth) for turn in range(3) for value, growth in lines]
            many = draw.choice((None, len(wide) + 1, 5 * len(wide)))
            found = fewest_lines(many, wide)
            self.assertLessEqual(len(found), len(lines), (seed, lines, found))
            for at in range(40):
                self.assertEqual(value_at(found, at), value_at(wide, at), (seed, lines, found))

    def test_sizes_where_ways_overtake(self):
        self.sizes(range(160))

    def test_sizes_without_a_look_at_each_round(self):
        # So few pulls are done one by one that rounds are mostly looked at all at once only where there are many: with none
        # done so, few rounds are looked at so, too.
        with mock.patch("pullworks.surveys.MOST_SINGLE", 0):
            self.sizes(range(1000, 1120))

    def test_outlets_that_overtake_each_other_in_each_of_many_rounds(self):
        sizes = 0
        for seed in range(250):
            draw = random.Random(seed)
            many, rounds = draw.choice((500, 10 ** 6, 10 ** 9 + 7)), draw.choice((1000, 10 ** 6, 10 ** 9))
            net = mixing_net(draw, many * rounds // 3)
            names = outlets(net)
            body = mixing_steps(draw, names, many)
            first = ("pull", draw.choice(names), many * draw.randint(0, 300))
            for split in "st":
                where = (seed, net.node_list(), first, rounds, body, split)
                size, number = greatest_size(net, [first, ("repeat", rounds, body)], split)
                cuts = [0, *sorted(draw.randint(0, rounds) for _ in range(4)), rounds]
                parts = [first, *[("repeat", high - low, body) for low, high in zip(cuts, cuts[1:])]]
                self.assertEqual(greatest_size(net, parts, split), (size, number), where)
                if 0 < size <= FAR:
                    self.assertEqual(first_above(net, parts, split, size - 1), number, where)
                    bound = draw.randint(0, size - 1)
                    self.assertEqual(first_above(net, parts, split, bound),
                                     first_above(net, [first, ("repeat", rounds, body)], split, bound), where)
                    sizes += 1
        self.assertGreater(sizes, 300)

    def test_the_same_in_few_rounds(self):
        with mock.patch("pullworks.surveys.MOST_SINGLE", 0):
            for seed in range(120):
                draw = random.Random(1000 + seed)
                many = draw.randint(10, 25)
                net = mixing_net(draw, 900)
                names = outlets(net)
                steps = [("pull", draw.choice(names), draw.randint(0, 200)),
                         ("repeat", draw.randint(10, 30), mixing_steps(draw, names, many))]
                for split in "st":
                    sizes = self.sizes_by_courses(net, steps, split)
                    most = max(sizes)
                    self.assertEqual(greatest_size(net, steps, split), (most, sizes.index(most)) if most else (0, None),
                                     (seed, net.node_list(), steps, split))
                    for bound in {0, most // 2, max(most - 1, 0)}:
                        first = next((at for at, size in enumerate(sizes) if size > bound), None)
                        self.assertEqual(first_above(net, steps, split, bound), first, (seed, net.node_list(), steps, split))

    def sizes_by_courses(self, net, steps, split):
        """Return the size behind each pull, by what each outlet has brought the ports."""
        gauge = Gauge(plan_of(net), split)
        counts = {name: 0 for name in outlets(net)}
        given = [0] * len(gauge.ports)
        found = []
        for _, _, _, outlet in unrolled(steps):
            counts[outlet] += 1
            if outlet in gauge.courses:
                given = [max(pair) for pair in zip(given, gauge.heights(outlet, counts[outlet]))]
            found.append(max(given) - min(given))
        return found

    def sizes(self, seeds):
        for seed in seeds:
            draw = random.Random(3000 + seed)
            net = overtaking_net(draw)
            steps = [("pull", draw.choice(outlets(net)), draw.randint(0, 30)), ("repeat", draw.randint(1, 50),
                                                                                drawn_steps(draw, outlets(net), 1, 1))]
            try:
                check_schedule(net, steps)
            except LimitExceeded:
                continue
            if len(list(unrolled(steps))) > 700:
                continue
            recorder = done(net, steps)
            for split, sizes in recorder.sizes.items():
                most = max(sizes, default=0)
                wanted = (most, sizes.index(most)) if most else (0, None)
                self.assertEqual(greatest_size(net, steps, split), wanted, (seed, net.node_list(), steps))
                for bound in {0, most // 2, max(most - 1, 0)}:
                    first = next((at for at, size in enumerate(sizes) if size > bound), None)
                    self.assertEqual(first_above(net, steps, split, bound), first, (seed, net.node_list(), steps, bound))
                if recorder.stop is None:
                    self.assertEqual(len(places(net, steps, split)), len([use for use in recorder.uses if use[2] == split]))

    def test_reads_where_ways_overtake(self):
        for seed in range(250):
            draw = random.Random(5000 + seed)
            net = overtaking_net(draw)
            outlet = outlets(net)[0]
            plan = plan_of(net)

            def reads(pulls):
                return plan.tapes["a"].used(0, plan.pulls_within({name: pulls if name == outlet else 0 for name in outlets(net)})["a"])

            never = plan.tapes[outlet].stop("never")
            many = 120 if never is None else min(120, never)
            if many:
                each = [reads(pull + 1) - reads(pull) for pull in range(many)]
                self.assertEqual(dearest(net, outlet, "a", many), (max(each), each.index(max(each))), (seed, net.node_list()))
            # A count with the same reads up to here, and not in the next pull.
            other = Net([("a", "count", (0, 1), []), (outlet, "scale", (1, 0), ["a"])])
            try:
                found = first_read_difference(net, outlet, other, outlet, "a")
            except LimitExceeded:
                continue
            wanted = next((pull for pull in range(many) if reads(pull + 1) != pull + 1), None)
            self.assertTrue(found == wanted or wanted is None and (found is None or found >= many), (seed, net.node_list(), found))


if __name__ == "__main__":
    unittest.main()
