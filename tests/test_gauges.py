"""Points [3] and [34]: what ports are given behind each pull on an outlet, where ways overtake each other, too."""

import random
import unittest
from unittest import mock

from drawing import drawn_net, drawn_steps, overtaking_net, splitting_net, unrolled
from makers import FAR
from recording import done

from pullworks.comparing import first_read_difference
from pullworks.demands import dearest
from pullworks.errors import LimitExceeded
from pullworks.gauges import Gauge
from pullworks.nets import Net, outlets
from pullworks.plans import plan_of
from pullworks.schedules import check_schedule
from pullworks.splits import first_above, greatest_size, places


class GaugeTest(unittest.TestCase):

    def given(self, plan, gauge, outlet, pulls):
        """Return what the ports have been given, by the tapes of all nodes between."""
        end = plan.tapes[gauge.split].stop("end")
        counts = plan.pulls_within({name: pulls if name == outlet else 0 for name in plan.outlets})
        found = [plan.pulls_by(user, place, counts) for user, place in gauge.ports]
        return found if end is None else [min(many, end) for many in found]

    def test_courses_against_the_tapes(self):
        done_ports = 0
        for seed in range(700):
            draw = random.Random(seed)
            net = draw.choice((overtaking_net, overtaking_net, splitting_net, drawn_net))(draw)
            plan = plan_of(net)
            for split in [node[0] for node in net.node_list() if node[1] == "split"]:
                gauge = Gauge(plan, split)
                for outlet in gauge.courses:
                    never = plan.tapes[outlet].stop("never")
                    for pulls in [*range(0, 150, 1 + seed % 3), *[draw.randint(0, top) for top in (10 ** 3, 10 ** 6, FAR, FAR)]]:
                        if never is not None and pulls > never:
                            continue
                        found = gauge.heights(outlet, pulls)
                        self.assertEqual(found, self.given(plan, gauge, outlet, pulls), (seed, net.node_list(), outlet, pulls))
                    done_ports += 1
        self.assertGreater(done_ports, 800)

    def test_sizes_where_ways_overtake(self):
        self.sizes(range(160))

    def test_sizes_without_a_look_at_each_round(self):
        # Outlets that overtake each other in many rounds are looked at at some points only: with no rounds looked at one by
        # one, few rounds are treated so, too.
        with mock.patch("pullworks.surveys.MOST_ROUNDS", 0):
            self.sizes(range(1000, 1120))

    def sizes(self, seeds):
        for seed in seeds:
            draw = random.Random(3000 + seed)
            net = overtaking_net(draw)
            steps = [("pull", draw.choice(outlets(net)), draw.randint(0, 30)), ("repeat", draw.randint(1, 50),
                                                                                drawn_steps(draw, outlets(net), 1, 1))]
            try:
                check_schedule(net, steps)
            except LimitExceeded:
                continue
            if len(list(unrolled(steps))) > 700:
                continue
            recorder = done(net, steps)
            for split, sizes in recorder.sizes.items():
                most = max(sizes, default=0)
                wanted = (most, sizes.index(most)) if most else (0, None)
                self.assertEqual(greatest_size(net, steps, split), wanted, (seed, net.node_list(), steps))
                for bound in {0, most // 2, max(most - 1, 0)}:
                    first = next((at for at, size in enumerate(sizes) if size > bound), None)
                    self.assertEqual(first_above(net, steps, split, bound), first, (seed, net.node_list(), steps, bound))
                if recorder.stop is None:
                    self.assertEqual(len(places(net, steps, split)), len([use for use in recorder.uses if use[2] == split]))

    def test_reads_where_ways_overtake(self):
        for seed in range(250):
            draw = random.Random(5000 + seed)
            net = overtaking_net(draw)
            outlet = outlets(net)[0]
            plan = plan_of(net)

            def reads(pulls):
                return plan.tapes["a"].used(0, plan.pulls_within({name: pulls if name == outlet else 0 for name in outlets(net)})["a"])

            never = plan.tapes[outlet].stop("never")
            many = 120 if never is None else min(120, never)
            if many:
                each = [reads(pull + 1) - reads(pull) for pull in range(many)]
                self.assertEqual(dearest(net, outlet, "a", many), (max(each), each.index(max(each))), (seed, net.node_list()))
            # A count with the same reads up to here, and not in the next pull.
            other = Net([("a", "count", (0, 1), []), (outlet, "scale", (1, 0), ["a"])])
            try:
                found = first_read_difference(net, outlet, other, outlet, "a")
            except LimitExceeded:
                continue
            wanted = next((pull for pull in range(many) if reads(pull + 1) != pull + 1), None)
            self.assertTrue(found == wanted or wanted is None and (found is None or found >= many), (seed, net.node_list(), found))


if __name__ == "__main__":
    unittest.main()
