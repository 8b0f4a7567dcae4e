"""Points [3], [7], [9], [19] and [49]: splits, failures, events and comparisons near the limits come within seconds."""

import random
import time
import unittest

from makers import FAR
from test_near_limits import SECONDS, heavy_nets, wild

from pullworks.comparing import agreements, first_difference, first_read_difference, same_results
from pullworks.errors import InvalidCall, InvalidEvent, LimitExceeded
from pullworks.events import count_events, event_at, event_count, event_of, events_from, state_behind
from pullworks.failing import ended_nodes, error_places, exposure, note_places, raised
from pullworks.nets import Net, outlets
from pullworks.playing import Playing, replay
from pullworks.rules import keeps, normal, sites
from pullworks.schedules import check_schedule
from pullworks.splits import best_order, endless_size, first_above, greatest_size, order_size, places, pulls_within
from pullworks.texts import format_net, parse_net


def port(name, lower, kind="scale", parameters=(1, 0)):
    return (name, kind, parameters, [lower])


def heavy_splits():
    """Return nets with splits near the limits of weight, load, ports and cells."""
    draw = random.Random(1)
    count, split = ("a", "count", (0, 1), []), ("s", "split", (), ["a"])
    deep = [count, split, ("t", "split", (), ["s"]), ("u", "split", (), ["t"])]
    letters = "abcde"
    return [
        Net([("a", "ring", (wild(draw, 9),), []), split, port("l", "s"), port("r", "s")]),
        Net([count, split, port("l", "s", "keep", (("mod", 7, [0, 3, 4]),)), port("r", "s", "keep", (("mod", 6, [0, 5]),))]),
        Net([count, split, port("l", "s", "stutter", (7,)), port("r", "s", "stutter", (6,))]),
        Net([count, split, port("l", "s", "stutter", (3,)), port("r", "s", "stutter", (3,))]),
        Net([count, split, ("t", "split", (), ["s"]), port("l", "t"), port("m", "t", "stutter", (3,)),
             port("n", "t", "stutter", (2,)), port("o", "s"), port("r", "s", "drop", (FAR,))]),
        Net([*deep, *[port("l" + word, "u") for word in letters], *[port("m" + word, "t") for word in letters[:4]],
             *[port("n" + word, "s", "fault", (10 ** 10, "net")) for word in letters[:4]]]),
    ]


def far_schedules(names, draw):
    """Return schedules with far numbers, several of them with as many steps and repeats as there may be."""
    def pulls(many, numbers):
        return [("pull", draw.choice(names), draw.choice(numbers)) for _ in range(many)]

    far = (1, 2, 3, 7, 10 ** 6, 10 ** 20, FAR)
    return [
        pulls(20, far),
        [("repeat", FAR, pulls(20, far))],
        [("repeat", 10 ** 20, pulls(20, range(1, 50))) for _ in range(20)],
        [("repeat", 10 ** 20, [("repeat", 10 ** 20, pulls(5, far)) for _ in range(5)])],
        [("repeat", 10 ** 20, [("repeat", 10 ** 20, pulls(6, range(1, 30))) for _ in range(6)])],
        [("repeat", 10 ** 20, [("repeat", 10 ** 20, [("pull", names[0], 10 ** 20)]),
                               ("repeat", 10 ** 20, [("pull", names[-1], 10 ** 20 + 1), ("pull", names[0], 1)])])],
    ]


class SchedulesTest(unittest.TestCase):

    def in_time(self, call, *arguments, what):
        """Return the answer, None for an error; it is worked out within seconds."""
        begun = time.monotonic()
        try:
            answer = call(*arguments)
        except (LimitExceeded, InvalidCall, InvalidEvent):
            answer = None
        self.assertLess(time.monotonic() - begun, SECONDS, (call.__name__, what))
        return answer

    def test_far_schedules(self):
        done = 0
        draw = random.Random(2)
        for number, net in enumerate(heavy_splits()):
            names = outlets(net)
            for at, steps in enumerate(far_schedules(names, draw)):
                try:
                    check_schedule(net, steps)
                except LimitExceeded:
                    continue
                done += 1
                self.ask_all(net, steps, names, (number, at))
        self.assertGreater(done, 15)

    def ask_all(self, net, steps, names, what):
        for split in [node[0] for node in net.node_list() if node[1] == "split"]:
            size, _ = self.in_time(greatest_size, net, steps, split, what=what)
            for bound in (size // 2, size - 1):
                if 0 <= bound <= FAR:
                    self.assertIsNotNone(self.in_time(first_above, net, steps, split, bound, what=what))
            self.in_time(endless_size, net, steps, split, what=what)
            self.in_time(places, net, steps, split, what=what)
            self.in_time(pulls_within, net, steps, split, names[0], FAR, what=what)
        for number in (0, 12345, 10 ** 25, FAR):
            self.in_time(event_at, net, steps, number, what=what)
            self.in_time(state_behind, net, steps, number, what=what)
        self.in_time(events_from, net, steps, 10 ** 25, 1000, what=what)
        self.in_time(event_count, net, steps, what=what)
        self.in_time(count_events, net, steps, "read", "a", what=what)
        self.in_time(event_of, net, steps, "read", "a", 10 ** 25, what=what)
        self.in_time(event_of, net, steps, "given", names[0], 10 ** 25, what=what)
        for call in (raised, error_places, note_places, ended_nodes):
            self.in_time(call, net, steps, what=what)
        for fault in [node[0] for node in net.node_list() if node[1] == "fault"][:1]:
            self.in_time(exposure, net, steps, fault, what=what)

    def test_orders(self):
        for number, net in enumerate(heavy_splits()):
            names = outlets(net)
            goals = list(zip(names, (9, 9, 9) if len(names) > 2 else (30, 30)))
            self.in_time(best_order, net, "s", goals, what=number)
            self.in_time(order_size, net, "s", (names * 1000)[:1000], what=number)

    def test_heavy_nets(self):
        for number, net in enumerate(heavy_nets()):
            for outlet in outlets(net):
                source = net.node_list()[0][0]
                steps = [("pull", outlet, FAR)]
                self.assertIs(self.in_time(first_difference, net, outlet, net, outlet, what=number), None)
                self.assertIs(self.in_time(first_read_difference, net, outlet, net, outlet, source, what=number), None)
                self.in_time(agreements, net, outlet, net, outlet, FAR, what=number)
                self.in_time(event_at, net, steps, 10 ** 29, what=number)
                self.in_time(events_from, net, steps, 10 ** 29, 1000, what=number)
                self.in_time(event_of, net, steps, "read", source, 10 ** 28, what=number)
            self.in_time(same_results, net, net, what=number)

    def test_playings(self):
        for number, net in enumerate(heavy_nets() + heavy_splits()):
            names = outlets(net)
            breaks = [("read", net.node_list()[0][0], FAR), ("item", ("below", -FAR)), ("note",), ("error",)] * 5
            playing = Playing(net)
            self.in_time(playing.set_breaks, breaks, what=number)
            for at in range(30):
                self.in_time(playing.go, names[at % len(names)], 10 ** 28, what=number)
            self.in_time(replay, net, playing.log() * 31, what=number)

    def test_chains_of_thirty_nodes(self):
        for kind, parameters in (("scale", (-1, 1)), ("take", (5,))):
            nodes = [("a", "count", (0, 1), [])]
            for at in range(29):
                nodes.append(("n" + "abcdefghijklmnopqrstuvwxyz"[at % 26] * (1 + at // 26), kind, parameters, [nodes[-1][0]]))
            net = Net(nodes)
            self.assertEqual(len(self.in_time(normal, net, what=kind)), 2)
            self.assertEqual(self.in_time(parse_net, format_net(net), what=kind), net)
            for name in sites(net, kind + "s"):
                self.assertEqual(self.in_time(keeps, net, kind + "s", name, what=kind), (True, True))

    def test_nets_compared_near_the_limit(self):
        rings = [Net([("a", "ring", (list(range(many)),), []), ("b", "stutter", (1,), ["a"])]) for many in (100, 49)]
        self.assertEqual(self.in_time(first_difference, rings[0], "b", rings[1], "b", what="rings"), 49)
        # In a period of 4900 pulls both give the same item as long as the first ring has not gone round once.
        agreed = self.in_time(agreements, rings[0], "b", rings[1], "b", 4900 * 10 ** 20, what="rings")
        wanted = sum(at % 100 == at % 49 for at in range(4900))
        self.assertEqual(agreed, wanted * 10 ** 20)


if __name__ == "__main__":
    unittest.main()
