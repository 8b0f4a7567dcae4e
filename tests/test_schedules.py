"""Points [19] to [22]: schedules done, counted and repeated for ever, by hand and against the plain machine."""

import random
import unittest

from both import Both
from drawing import drawn_net, drawn_steps, unrolled
from makers import END, FAR, item, tower
from plain import PlainMachine

from pullworks.errors import InvalidSchedule, LimitExceeded
from pullworks.machines import Machine
from pullworks.nets import Net, outlets
from pullworks.schedules import check_schedule, done_steps, first_round, run, tallies

COUNT = ("count", (0, 1))


def two():
    return Net([("a", "count", (0, 1), []), ("s", "split", (), ["a"]), ("l", "scale", (1, 0), ["s"]),
                ("r", "keep", (("mod", 2, [0]),), ["s"])])


def blind():
    return tower(COUNT, ("keep", (("below", 5),)))[0]


def short():
    """Return the net of point 8."""
    return tower(COUNT, ("keep", (("mod", 3, [0]),)), ("take", (2,)))[0]


class DoneTest(unittest.TestCase):

    def test_empty(self):
        self.assertEqual(tallies(two(), []), [("l", 0, 0, 0), ("r", 0, 0, 0)])
        self.assertIs(done_steps(two(), []), None)
        self.assertEqual(run(two(), []).pull("l"), item(0))

    def test_the_example_with_two_outlets(self):
        steps = [("repeat", 10, [("pull", "l", 3), ("pull", "r", 2)])]
        self.assertEqual(tallies(two(), steps), [("l", 30, 0, 0), ("r", 20, 0, 0)])
        machine = run(two(), steps)
        self.assertIs(type(machine), Machine)
        self.assertEqual((machine.reads("a"), machine.buffer("s"), machine.pull("l"), machine.pull("r")),
                         (39, 9, item(30), item(40)))

    def test_far_repeats(self):
        steps = [("repeat", 10 ** 28, [("pull", "l", 3), ("pull", "r", 2)])]
        self.assertEqual(tallies(two(), steps), [("l", 3 * 10 ** 28, 0, 0), ("r", 2 * 10 ** 28, 0, 0)])
        machine = run(two(), steps)
        self.assertEqual((machine.reads("a"), machine.buffer("s")), (4 * 10 ** 28 - 1, 10 ** 28 - 1))
        steps = [("repeat", FAR, [("pull", "l", FAR), ("repeat", FAR, [("pull", "r", FAR), ("pull", "l", 1)])])]
        self.assertEqual(tallies(two(), steps), [("l", 2 * FAR ** 2, 0, 0), ("r", FAR ** 3, 0, 0)])
        self.assertEqual(run(two(), steps).reads("a"), 2 * FAR ** 3 - 1)

    def test_results_of_all_sorts(self):
        net = tower(COUNT, ("fault", (1, "net")), ("take", (3,)))[0]
        self.assertEqual(tallies(net, [("pull", "c", 10)]), [("c", 3, 1, 6)])
        self.assertEqual(tallies(net, [("repeat", FAR, [("pull", "c", FAR)])]), [("c", 3, 1, FAR ** 2 - 4)])
        self.assertEqual(tallies(net, [("pull", "c", 2), ("close", "c"), ("pull", "c", 7), ("close", "c")]), [("c", 1, 1, 7)])

    def test_repeats_that_are_not_done(self):
        steps = [("pull", "l", 0), ("repeat", 0, [("pull", "l", 5), ("close", "l"), ("repeat", 5, [("close", "r")])]),
                 ("pull", "r", 1)]
        self.assertEqual(tallies(two(), steps), [("l", 0, 0, 0), ("r", 1, 0, 0)])
        machine = run(two(), steps)
        self.assertEqual((machine.ended("l"), machine.ended("r"), machine.pull("l")), (False, False, item(0)))

    def test_a_close_within_repeats(self):
        steps = [("repeat", 3, [("pull", "l", 2), ("repeat", 2, [("pull", "l", 1), ("close", "l"), ("pull", "r", 1)])])]
        self.assertEqual(tallies(two(), steps), [("l", 3, 0, 9), ("r", 6, 0, 0)])
        machine = run(two(), steps)
        self.assertEqual((machine.pull("l"), machine.ended("l"), machine.buffer("s"), machine.reads("a")), (END, True, 0, 11))

    def test_notes_in_their_order(self):
        net = Net([("a", "span", (0, 1, 4), []), ("c", "closing", ("below",), ["a"]), ("s", "split", (), ["c"]),
                   ("l", "closing", ("left",), ["s"]), ("r", "closing", ("right",), ["s"]), ("z", "count", (0, 1), []),
                   ("y", "closing", ("beside",), ["z"])])
        self.assertEqual(run(net, [("pull", "l", 5), ("close", "y"), ("pull", "r", 5)]).notes(),
                         ["below", "left", "beside", "right"])
        self.assertEqual(run(net, [("repeat", 5, [("pull", "r", 1), ("pull", "l", 1)]), ("close", "y")]).notes(),
                         ["below", "right", "left", "beside"])
        self.assertEqual(run(net, [("repeat", 2, [("pull", "y", 1), ("close", "r"), ("close", "l")])]).notes(),
                         ["right", "left", "below"])
        self.assertEqual(run(net, [("close", "y"), ("repeat", FAR, [("pull", "r", 1)])]).notes(), ["beside", "below", "right"])

    def test_a_pull_that_is_never_answered(self):
        steps = [("repeat", 9, [("pull", "b", 2)])]
        self.assertEqual(done_steps(blind(), steps), ((0, 2, 0), 1, "b"))
        self.assertEqual(tallies(blind(), steps), [("b", 5, 0, 0)])
        self.assertEqual(run(blind(), steps).stuck(), "b")
        self.assertEqual(done_steps(blind(), [("pull", "b", 6)]), ((0,), 5, "b"))
        self.assertIs(done_steps(blind(), [("pull", "b", 5)]), None)
        self.assertEqual(done_steps(blind(), [("pull", "b", 5), ("repeat", FAR, [("pull", "b", FAR)])]), ((1, 0, 0), 0, "b"))
        self.assertIs(done_steps(blind(), [("pull", "b", 5), ("close", "b"), ("pull", "b", FAR)]), None)

    def test_never_answered_far_out(self):
        net = tower(("count", (0, 1)), ("keep", (("below", FAR),)))[0]
        steps = [("pull", "b", 1), ("repeat", FAR, [("pull", "b", 10 ** 10), ("pull", "b", 6)])]
        rounds, rest = divmod(FAR - 1, 10 ** 10 + 6)
        self.assertLess(rest, 10 ** 10)
        self.assertEqual(done_steps(net, steps), ((1, rounds, 0), rest, "b"))
        net = tower(("span", (0, 1, 10 ** 29)), ("heads", ()))[0]
        self.assertIs(done_steps(net, [("pull", "b", FAR)]), None)

    def test_steps_behind_a_pull_that_is_never_answered_are_not_done(self):
        net = Net([*blind().node_list(), ("x", "count", (0, 1), []), ("y", "closing", ("bye",), ["x"])])
        steps = [("pull", "y", 2), ("repeat", 3, [("pull", "y", 1), ("pull", "b", 2), ("pull", "y", 1)]), ("close", "y")]
        self.assertEqual(done_steps(net, steps), ((1, 2, 1), 1, "b"))
        self.assertEqual(tallies(net, steps), [("b", 5, 0, 0), ("y", 7, 0, 0)])
        machine = run(net, steps)
        self.assertEqual((machine.stuck(), machine.notes(), machine.ended("y")), ("b", [], False))

    def test_the_first_of_two_pulls_that_are_never_answered(self):
        nodes = [*blind().node_list(), ("x", "count", (0, 1), []), ("y", "keep", (("below", 3),), ["x"])]
        steps = [("repeat", 9, [("pull", "b", 1), ("pull", "y", 1)])]
        self.assertEqual(done_steps(Net(nodes), steps), ((0, 3, 1), 0, "y"))
        self.assertEqual(tallies(Net(nodes), steps), [("b", 4, 0, 0), ("y", 3, 0, 0)])
        self.assertEqual(done_steps(Net(nodes), [("pull", "b", 6), ("pull", "y", 6)]), ((0,), 5, "b"))

    def test_notes_of_a_pull_that_is_never_answered(self):
        net = Net([("a", "span", (0, 1, 3), []), ("c", "closing", ("bye",), ["a"]), ("d", "count", (5, 1), []),
                   ("y", "chain", (), ["c", "d"]), ("z", "keep", (("below", 2),), ["y"])])
        self.assertEqual(run(net, [("pull", "z", 2)]).notes(), [])
        self.assertEqual(run(net, [("repeat", 7, [("pull", "z", 2)])]).notes(), ["bye"])


class FirstRoundTest(unittest.TestCase):

    def test_the_example(self):
        self.assertEqual(first_round(short(), [("pull", "c", 1)], "c", "end"), 2)

    def test_ends_and_errors(self):
        net = tower(COUNT, ("fault", (10, "net")), ("take", (21,)))[0]
        for many, error, end in ((1, 10, 22), (2, 5, 11), (3, 3, 7), (30, 0, 0)):
            self.assertEqual(first_round(net, [("pull", "c", many)], "c", "error"), error)
            self.assertEqual(first_round(net, [("pull", "c", many)], "c", "end"), end)
        self.assertEqual(first_round(net, [("pull", "c", 1), ("repeat", 3, [("pull", "c", 1), ("pull", "c", 2)])], "c",
                                     "end"), 2)
        for word in ("error", "end"):
            self.assertIs(first_round(two(), [("pull", "l", FAR)], "l", word), None)
            self.assertIs(first_round(net, [("pull", "c", 0)], "c", word), None)
            self.assertIs(first_round(net, [("repeat", 0, [("pull", "c", 5)])], "c", word), None)
            self.assertIs(first_round(net, [], "c", word), None)

    def test_far_out(self):
        net = tower(("span", (0, 1, FAR)), ("fault", (10 ** 29, "net")))[0]
        self.assertEqual(first_round(net, [("pull", "b", 7)], "b", "end"), (FAR + 1) // 7)
        self.assertEqual(first_round(net, [("pull", "b", 7)], "b", "error"), 10 ** 29 // 7)
        net = tower(("span", (0, 1, FAR)), ("stutter", (48,)))[0]
        self.assertEqual(first_round(net, [("pull", "b", 7)], "b", "end"), 48 * FAR // 7)

    def test_closes(self):
        net = two()
        self.assertEqual(first_round(net, [("close", "l"), ("pull", "l", 1)], "l", "end"), 0)
        self.assertEqual(first_round(net, [("pull", "l", 1), ("close", "l")], "l", "end"), 1)
        self.assertIs(first_round(net, [("close", "l")], "l", "end"), None)
        self.assertIs(first_round(net, [("close", "l"), ("pull", "r", 1)], "l", "end"), None)
        faulty = tower(COUNT, ("fault", (3, "net")))[0]
        self.assertIs(first_round(faulty, [("pull", "b", 2), ("close", "b")], "b", "error"), None)
        self.assertEqual(first_round(faulty, [("pull", "b", 4), ("close", "b")], "b", "error"), 0)
        self.assertEqual(first_round(faulty, [("repeat", 2, [("pull", "b", 1), ("close", "b"), ("pull", "b", 1)])], "b",
                                     "end"), 0)

    def test_behind_a_pull_that_is_never_answered(self):
        nodes = [*blind().node_list(), ("x", "span", (0, 1, 3), [])]
        net = Net(nodes)
        # The end of "x" is pull number 3, the fifth round of "b" has no answer.
        self.assertEqual(first_round(net, [("pull", "b", 1), ("pull", "x", 1)], "x", "end"), 3)
        self.assertIs(first_round(net, [("pull", "b", 2), ("pull", "x", 1)], "x", "end"), None)
        self.assertEqual(first_round(net, [("pull", "x", 2), ("pull", "b", 5)], "x", "end"), 1)
        self.assertIs(first_round(net, [("pull", "b", 1)], "b", "end"), None)
        self.assertEqual(first_round(net, [("pull", "b", 1), ("close", "b")], "b", "end"), 1)


class PlainTest(unittest.TestCase):

    def done(self, net, events):
        """Return the plain machine that has done the events, the counts of results, and where it was stuck."""
        plain = PlainMachine(net.node_list())
        counts = {name: {"item": 0, "error": 0, "end": 0} for name in plain.outlets}
        for path, number, word, outlet in events:
            if word == "close":
                plain.close(outlet)
                continue
            result = plain.pull(outlet)
            if result[0] == "never":
                return plain, counts, (path, number, result[1])
            counts[outlet][result[0]] += 1
        return plain, counts, None

    def test_drawn_schedules(self):
        stuck = done = 0
        for seed in range(900):
            draw = random.Random(seed)
            net = drawn_net(draw, 7)
            steps = drawn_steps(draw, outlets(net))
            events = list(unrolled(steps))
            try:
                check_schedule(net, steps)
            except LimitExceeded:
                continue
            if len(events) > 600:
                continue
            plain, counts, place = self.done(net, events)
            self.assertEqual(done_steps(net, steps), place, (seed, steps))
            self.assertEqual(tallies(net, steps), [(name, *counts[name].values()) for name in plain.outlets], (seed, steps))
            both = Both(self, net)
            both.plain, both.machine = plain, run(net, steps)
            both.calls.append(steps)
            both.compare()
            stuck += place is not None
            done += place is None
        self.assertGreater(stuck, 8)
        self.assertGreater(done, 700)

    def test_drawn_schedules_repeated_for_ever(self):
        found = 0
        for seed in range(1000):
            draw = random.Random(20000 + seed)
            net = drawn_net(draw, 6)
            steps = drawn_steps(draw, outlets(net))
            events = list(unrolled(steps))
            try:
                check_schedule(net, [("repeat", 1, steps)] if steps else [])
            except (LimitExceeded, InvalidSchedule):
                continue
            if len(events) > 60:
                continue
            firsts, rounds, stuck = self.firsts(net, events)
            for name in outlets(net):
                for word in ("error", "end"):
                    answer = first_round(net, steps, name, word)
                    wanted = firsts.get((name, word))
                    if wanted is not None or stuck:
                        self.assertEqual(answer, wanted, (seed, steps))
                    else:
                        self.assertTrue(answer is None or answer >= rounds, (seed, steps))
                    found += wanted is not None
        self.assertGreater(found, 250)

    def firsts(self, net, events, rounds=20):
        """Return the first rounds with the results of each outlet, how many rounds were done, and whether one was stuck."""
        plain = PlainMachine(net.node_list())
        firsts = {}
        for number in range(rounds):
            for _, _, word, outlet in events:
                if word == "close":
                    plain.close(outlet)
                    continue
                result = plain.pull(outlet)
                if result[0] == "never":
                    return firsts, number, True
                firsts.setdefault((outlet, result[0]), number)
        return firsts, rounds, False

    def test_one_far_repeat_in_parts(self):
        for seed in range(120):
            draw = random.Random(40000 + seed)
            net = drawn_net(draw, 7)
            names = outlets(net)
            inner = [("pull", draw.choice(names), draw.randint(1, 9)) for _ in range(3)]
            low, high = draw.randint(0, 50), draw.choice((10 ** 28, 10 ** 6))
            try:
                whole = run(net, [("repeat", low + high, inner)])
            except LimitExceeded:
                continue
            parts = run(net, [("repeat", low, inner), ("repeat", high, inner)])
            self.assertEqual((parts.stuck(), parts.notes()), (whole.stuck(), whole.notes()))
            if whole.stuck() is None:
                read = [node[0] for node in net.node_list() if node[1] in ("count", "span", "ring", "row")]
                self.assertEqual([parts.reads(name) for name in read], [whole.reads(name) for name in read])
                self.assertEqual([parts.pull(name) for name in names], [whole.pull(name) for name in names])


if __name__ == "__main__":
    unittest.main()
