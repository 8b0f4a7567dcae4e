"""Points [39] to [43]: errors, notes, ends and closes, by hand, far out, and against the plain machine."""

import copy
import random
import unittest

from drawing import drawn_net, drawn_steps, splitting_net, unrolled
from makers import FAR
from recording import Recorder, done

from pullworks.errors import InvalidCall, LimitExceeded
from pullworks.failing import close_effect, ended_nodes, error_places, error_ways, exposure, note_places, raised
from pullworks.nets import Net, outlets
from pullworks.schedules import check_schedule, run

JOB = [("a", "count", (0, 1), []), ("f", "fault", (4, "net"), ["a"]), ("c", "closing", ("done",), ["f"]),
       ("t", "take", (9,), ["c"])]


def job():
    return Net(JOB)


def shared():
    """Return a net whose fault is below two splits, a calm and a join of several ports."""
    return Net([("a", "count", (0, 1), []), ("f", "fault", (2, "net"), ["a"]), ("s", "split", (), ["f"]),
                ("c", "calm", ("skip",), ["s"]), ("d", "scale", (1, 0), ["c"]), ("t", "split", (), ["s"]),
                ("z", "zip", ("sum",), ["t", "s", "t"]), ("y", "chain", (), ["z", "t"])])


class HandTest(unittest.TestCase):

    def test_error_ways(self):
        self.assertEqual(error_ways(job(), "f"), [["f", "c", "t"]])
        self.assertEqual(error_ways(shared(), "f"), [["f", "s", "c"], ["f", "s", "t", "y"], ["f", "s", "t", "z", "y"],
                                                     ["f", "s", "z", "y"]])
        self.assertEqual(error_ways(Net(JOB[:2]), "f"), [["f"]])
        net = Net([*JOB[:2], ("g", "fault", (7, "two"), ["f"]), ("c", "calm", ("stop",), ["g"]), ("b", "dying", (), ["c"])])
        self.assertEqual([error_ways(net, name) for name in "fg"], [[["f", "g", "c"]], [["g", "c"]]])

    def test_raised(self):
        self.assertEqual([raised(job(), [("pull", "t", many)]) for many in (0, 4, 5, FAR)], [[], [], ["f"], ["f"]])
        self.assertEqual(raised(job(), [("pull", "t", 4), ("close", "t"), ("pull", "t", 4)]), [])
        net = Net([("a", "row", ([1, 2],), []), ("g", "fault", (3, "two"), ["a"]), ("f", "fault", (1, "net"), ["g"])])
        # "g" gives the end in its pull number 2, and raises nothing behind it.
        self.assertEqual(raised(net, [("pull", "f", 9)]), ["f"])

    def test_exposure(self):
        self.assertEqual([exposure(job(), [("pull", "t", many)], "f") for many in (0, 4, 5, 9, 20)], [0, 4, 5, 9, 9])
        self.assertEqual(exposure(job(), [("pull", "t", 3), ("close", "t"), ("pull", "t", 3)], "f"), 3)
        far = Net([*JOB[:2], ("s", "step", (FAR,), ["f"])])
        self.assertEqual(exposure(far, [("repeat", FAR, [("pull", "s", FAR)])], "f"), FAR * (FAR ** 2 - 1) + 1)
        ended = Net([("a", "row", ([1, 2],), []), ("f", "fault", (0, "net"), ["a"])])
        self.assertEqual(exposure(ended, [("pull", "f", 50)], "f"), 3)
        below = Net([("a", "row", ([1, 2],), []), ("g", "fault", (1, "net"), ["a"]), ("f", "fault", (0, "net"), ["g"]),
                     ("d", "dying", (), ["f"])])
        self.assertEqual([exposure(below, [("pull", "d", 50)], name) for name in "gf"], [0, 2])

    def test_exposure_to_a_pull_that_is_never_answered(self):
        net = Net([("a", "count", (0, 1), []), ("f", "fault", (5, "net"), ["a"]), ("k", "keep", (("below", 3),), ["f"])])
        self.assertEqual(exposure(net, [("pull", "k", 3)], "f"), 3)
        self.assertIs(exposure(net, [("pull", "k", 4)], "f"), None)
        self.assertEqual((raised(net, [("pull", "k", 3)]), raised(net, [("pull", "k", 4)])), ([], ["f"]))

    def test_error_places(self):
        self.assertEqual(error_places(job(), [("repeat", 5, [("pull", "t", 2)])]), [("t", "net", (0, 2, 0), 0)])
        self.assertEqual(error_places(job(), [("pull", "t", 4)]), [])
        self.assertEqual(error_places(job(), [("pull", "t", 4), ("close", "t"), ("pull", "t", 4)]), [])
        steps = [("repeat", 2, [("pull", "d", 1), ("pull", "y", 2)])]
        self.assertEqual(error_places(shared(), steps), [("y", "net", (0, 1, 1), 0), ("y", "net", (0, 1, 1), 1)])
        two = Net([*JOB[:2], ("s", "split", (), ["f"]), ("l", "dying", (), ["s"]), ("r", "heads", (), ["s"])])
        steps = [("pull", "r", 3), ("repeat", 4, [("pull", "l", 2), ("pull", "r", 1)])]
        self.assertEqual(error_places(two, steps), [("r", "net", (1, 1, 1), 0), ("l", "net", (1, 2, 0), 0)])

    def test_far_errors(self):
        far = Net([("a", "count", (0, 1), []), ("f", "fault", (10 ** 30, "net"), ["a"]), ("s", "step", (3,), ["f"])])
        self.assertEqual(error_places(far, [("repeat", 10 ** 20, [("pull", "s", 10 ** 20)])]),
                         [("s", "net", (0, 3333333333, 0), 33333333333333333334)])
        self.assertEqual(raised(far, [("pull", "s", (10 ** 30 + 2) // 3)]), [])
        self.assertEqual(raised(far, [("pull", "s", (10 ** 30 + 2) // 3 + 1)]), ["f"])

    def test_note_places(self):
        self.assertEqual(note_places(job(), [("pull", "t", 2), ("close", "t")]), [("done", (1,), 0)])
        self.assertEqual(note_places(job(), [("pull", "t", 4)]), [])
        self.assertEqual(note_places(job(), [("repeat", 9, [("pull", "t", 2), ("close", "t")])]), [("done", (0, 0, 1), 0)])
        self.assertEqual(note_places(job(), [("repeat", 9, [("pull", "t", 2)]), ("close", "t")]), [("done", (0, 2, 0), 0)])
        net = Net([("a", "span", (0, 1, 10 ** 25), []), ("c", "closing", ("low",), ["a"]), ("d", "closing", ("high",), ["c"])])
        self.assertEqual(note_places(net, [("repeat", FAR, [("pull", "d", 10 ** 5)])]),
                         [("low", (0, 10 ** 20, 0), 0), ("high", (0, 10 ** 20, 0), 0)])

    def test_ended_nodes(self):
        self.assertEqual(ended_nodes(job(), [("pull", "t", 4)]), [])
        self.assertEqual(ended_nodes(job(), [("pull", "t", 5)]), ["c"])
        self.assertEqual(ended_nodes(job(), [("pull", "t", 6)]), ["c", "t"])
        self.assertEqual(ended_nodes(job(), [("close", "t")]), ["a", "f", "c", "t"])
        net = Net([("a", "row", ([1],), []), ("s", "split", (), ["a"]), ("l", "take", (1,), ["s"]), ("r", "ahead", (3,), ["s"])])
        self.assertEqual(ended_nodes(net, [("pull", "r", 1)]), ["a"])
        self.assertEqual(ended_nodes(net, [("pull", "r", 2)]), ["a", "r"])
        self.assertEqual(ended_nodes(net, [("pull", "l", 2), ("close", "r")]), ["l", "r"])
        self.assertEqual(ended_nodes(net, [("close", "l"), ("close", "r")]), ["a", "l", "r"])

    def test_within_a_pull_that_is_never_answered(self):
        net = Net([("a", "span", (0, 1, 3), []), ("f", "fault", (1, "low"), ["a"]), ("c", "closing", ("bye",), ["f"]),
                   ("e", "calm", ("skip",), ["c"]), ("d", "count", (5, 1), []), ("g", "fault", (10 ** 20, "far"), ["d"]),
                   ("h", "calm", ("skip",), ["g"]), ("y", "chain", (), ["e", "h"]), ("z", "keep", (("below", 1),), ["y"])])
        self.assertEqual(raised(net, [("pull", "z", 1)]), [])
        self.assertEqual(raised(net, [("pull", "z", 2)]), ["f", "g"])
        self.assertEqual(ended_nodes(net, [("pull", "z", 1)]), [])
        self.assertEqual(ended_nodes(net, [("repeat", 2, [("pull", "z", 1)]), ("close", "z")]), ["c", "e"])
        self.assertEqual(note_places(net, [("repeat", 2, [("pull", "z", 1)])]), [("bye", (0, 1, 0), 0)])
        self.assertEqual(error_places(net, [("pull", "z", 2)]), [])
        with self.assertRaises(InvalidCall) as caught:
            close_effect(net, [("pull", "z", 2)], "z")
        self.assertEqual(caught.exception.call, "stuck")

    def test_close_effect(self):
        self.assertEqual(close_effect(job(), [("pull", "t", 2)], "t"), (["t", "c", "f", "a"], ["done"]))
        self.assertEqual(close_effect(job(), [("pull", "t", 9)], "t"), (["t", "c", "f", "a"], []))
        self.assertEqual(close_effect(job(), [("close", "t")], "t"), ([], []))
        net = Net([("a", "count", (0, 1), []), ("c", "closing", ("low",), ["a"]), ("s", "split", (), ["c"]),
                   ("l", "closing", ("left",), ["s"]), ("r", "zip", ("sum",), ["s", "s"])])
        self.assertEqual(close_effect(net, [], "l"), (["l"], ["left"]))
        self.assertEqual(close_effect(net, [], "r"), (["r"], []))
        self.assertEqual(close_effect(net, [("close", "l")], "r"), (["r", "c", "a"], ["low"]))
        self.assertEqual(close_effect(net, [("close", "r")], "l"), (["l", "c", "a"], ["left", "low"]))

    def test_a_close_is_not_done(self):
        net, steps = job(), [("pull", "t", 2)]
        first = close_effect(net, steps, "t")
        first[0].append("x")
        self.assertEqual(close_effect(net, steps, "t"), (["t", "c", "f", "a"], ["done"]))
        self.assertEqual((ended_nodes(net, steps), run(net, steps).notes()), ([], []))


class PlainTest(unittest.TestCase):

    def cases(self, seeds):
        for seed in seeds:
            draw = random.Random(seed)
            net = splitting_net(draw) if draw.random() < 0.3 else drawn_net(draw, 7)
            steps = drawn_steps(draw, outlets(net))
            try:
                check_schedule(net, steps)
            except LimitExceeded:
                continue
            if len(list(unrolled(steps))) <= 600:
                yield (seed, net.node_list(), steps), net, steps

    def test_against_the_plain_machine(self):
        counts = [0, 0, 0, 0]
        for where, net, steps in self.cases(range(1200)):
            recorder = done(net, steps)
            nodes = net.node_list()
            self.assertEqual(note_places(net, steps), recorder.note_places, where)
            self.assertEqual(error_places(net, steps), recorder.error_list, where)
            ended = [node[0] for node in nodes if node[0] in recorder.ended_nodes and node[1] != "split"]
            self.assertEqual(ended_nodes(net, steps), ended, where)
            faults = [node[0] for node in nodes if node[1] == "fault"]
            wanted = [name for name in faults if recorder.memory[name].get("pulls", -1) >= net[name][2][0]]
            self.assertEqual(raised(net, steps), wanted, where)
            for at, found in enumerate((recorder.note_places, recorder.error_list, ended, wanted)):
                counts[at] += len(found) > 0
        self.assertGreater(min(counts), 15)

    def test_exposure_against_faults_that_never_raise(self):
        never = 0
        for where, net, steps in self.cases(range(2000, 3200)):
            for name in [node[0] for node in net.node_list() if node[1] == "fault"]:
                nodes = [(name, "fault", (FAR, node[2][1]), node[3]) if node[0] == name else node for node in net.node_list()]
                recorder = Recorder(nodes)
                answered = recorder.do(steps)
                wanted = recorder.memory[name].get("pulls", -1) + 1 if answered else None
                self.assertEqual(exposure(net, steps, name), wanted, (where, name))
                never += not answered
                if wanted is not None and 0 < wanted < FAR:
                    for first, names in ((wanted - 1, [name]), (wanted, [])):
                        nodes = [(name, "fault", (first, node[2][1]), node[3]) if node[0] == name else node for node in nodes]
                        self.assertEqual([known for known in raised(Net(nodes), steps) if known == name], names, (where, name))
        self.assertGreater(never, 2)

    def test_close_effect_against_the_plain_machine(self):
        for where, net, steps in self.cases(range(4000, 4400)):
            recorder = done(net, steps)
            if recorder.stop is not None:
                continue
            for outlet in outlets(net):
                other = copy.deepcopy(recorder)
                before = len(other.note_list)
                order = []
                other.closed_nodes = Marks(other.closed_nodes, order)
                other.close(outlet)
                closed = [name for name in order if net[name][1] != "split"]
                self.assertEqual(close_effect(net, steps, outlet), (closed, other.note_list[before:]), (where, outlet))


class Marks(set):
    """A set that writes down what is added."""

    def __init__(self, members, order):
        super().__init__(members)
        self.order = order

    def add(self, member):
        self.order.append(member)
        super().add(member)


if __name__ == "__main__":
    unittest.main()
