"""Points [62] to [66]: nets run call by call, by hand, far out, and against a machine that is pulled one by one."""

import copy
import random
import time
import unittest

from drawing import drawn_net, splitting_net
from drawing import test_of as drawn_test
from makers import END, FAR, Claimer, error, item, strange_values, tower
from recording import SOURCES, Recorder

from pullworks.errors import InvalidBound, InvalidCall, InvalidName, InvalidRecord, LimitExceeded, PullError
from pullworks.machines import Machine
from pullworks.nets import Net, outlets
from pullworks.playing import Playing, replay

NODES = [("a", "count", (0, 1), []), ("b", "keep", (("mod", 3, [0]),), ["a"]), ("c", "take", (2,), ["b"])]


def net():
    return Net(NODES)


class PlainPlaying:
    """A plain machine that looks for the breakpoints behind each pull."""

    def __init__(self, nodes, patience=500):
        self.machine = Recorder(nodes, patience)
        self.breaks = []
        self.calls = []
        self.past = []

    def save(self, call):
        self.past.append((copy.deepcopy(self.machine), self.breaks))
        self.calls.append(call)

    def set_breaks(self, breaks):
        self.save(("breaks", list(breaks)))
        self.breaks = list(breaks)

    def close(self, outlet):
        self.save(("close", outlet))
        self.machine.close(outlet)

    def undo(self, count):
        for _ in range(count):
            self.machine, self.breaks = self.past.pop()
            self.calls.pop()

    def go(self, outlet, n):
        self.save(("go", outlet, n))
        last = None
        for pulls in range(n):
            before = dict(self.machine.read_counts), len(self.machine.note_list)
            result = self.machine.pull(outlet)
            if result[0] == "never":
                return pulls, last, "never"
            last = result
            for index, part in enumerate(self.breaks):
                if self.holds(part, result, *before):
                    return pulls + 1, result, index
        return n, last, None

    def holds(self, part, result, reads, notes):
        if part[0] == "read":
            return reads[part[1]] <= part[2] < self.machine.read_counts[part[1]]
        if part[0] == "item":
            return result[0] == "item" and self.passes(part[1], result[1])
        if part[0] == "note":
            return len(self.machine.note_list) > notes
        return result[0] == part[0]

    def passes(self, test, value):
        if test[0] == "not":
            return not self.passes(test[1], value)
        if test[0] == "mod":
            return value % test[1] in test[2]
        return value < test[1] if test[0] == "below" else value >= test[1]


def state_of(machine):
    """Return all that a machine answers about itself without a pull."""
    stuck = machine.stuck()
    nodes = machine_nodes(machine)
    found = [stuck, machine.notes(), [machine.ended(name) for name in outlets(Net(nodes))]]
    if stuck is None:
        found.append([machine.reads(name) for name, kind, _, _ in nodes if kind in SOURCES])
        found.append([machine.buffer(name) for name, kind, _, _ in nodes if kind == "split"])
    return found


def machine_nodes(machine):
    return machine._net.node_list()


class HandTest(unittest.TestCase):

    def test_the_example(self):
        p = Playing(net())
        self.assertIs(p.set_breaks([("read", "a", 2)]), None)
        self.assertEqual(p.go("c", 10), (2, item(3), 0))
        self.assertEqual(p.go("c", 10), (10, END, None))
        self.assertIs(p.undo(1), None)
        self.assertEqual(p.present().reads("a"), 4)
        self.assertEqual(p.log(), [("breaks", [("read", "a", 2)]), ("go", "c", 10)])
        self.assertEqual(p.go("c", 0), (0, None, None))

    def test_a_net_that_has_just_been_set_up(self):
        p = Playing(net())
        self.assertEqual((p.base_net(), p.log()), (net(), []))
        self.assertIs(type(p.present()), Machine)
        self.assertEqual(p.present().reads("a"), 0)

    def test_a_present_machine_stays(self):
        p = Playing(net())
        p.go("c", 1)
        machine = p.present()
        p.go("c", 1)
        self.assertEqual((machine.reads("a"), p.present().reads("a")), (1, 4))
        self.assertEqual(machine.pull("c"), item(3))
        self.assertEqual(machine.pull("c"), END)
        self.assertEqual((p.present().ended("c"), p.go("c", 1)), (False, (1, END, None)))

    def test_each_form_of_a_breakpoint(self):
        nodes = [("a", "span", (0, 1, 9), []), ("f", "fault", (3, "net"), ["a"]), ("c", "closing", ("bye",), ["f"]),
                 ("d", "calm", ("skip",), ["c"]), ("b", "count", (0, 1), [])]
        for breaks, outlet, wanted in (
                ([("error",)], "d", (9, END, None)), ([("note",)], "d", (4, END, 0)), ([("end",)], "d", (4, END, 0)),
                ([("end",), ("note",)], "d", (4, END, 0)), ([("note",), ("end",)], "d", (4, END, 0)),
                ([("item", ("from", 2))], "d", (3, item(2), 0)), ([("read", "a", 2)], "d", (3, item(2), 0)),
                ([("read", "a", 3)], "d", (9, END, None)), ([("read", "b", 3)], "d", (9, END, None)),
                ([("item", ("mod", 4, [3])), ("read", "b", 3)], "b", (4, item(3), 0)),
                ([("read", "b", 4), ("item", ("mod", 4, [3]))], "b", (4, item(3), 1)), ([], "b", (9, item(8), None)),
                ([("item", ("not", ("below", 100)))], "b", (9, item(8), None))):
            p = Playing(Net(nodes))
            p.set_breaks(breaks)
            self.assertEqual(p.go(outlet, 9), wanted, breaks)
        faulty = tower(("count", (0, 1)), ("fault", (3, "net")))[0]
        p = Playing(faulty)
        p.set_breaks([("error",)])
        self.assertEqual([p.go("b", 9), p.go("b", 9)], [(4, error(), 0), (9, item(11), None)])

    def test_the_end_of_a_source_is_a_read(self):
        p = Playing(tower(("span", (0, 1, 5)), ("scale", (1, 0)))[0])
        p.set_breaks([("read", "a", 5), ("read", "a", 6)])
        self.assertEqual([p.go("b", 99), p.go("b", 99)], [(6, END, 0), (99, END, None)])

    def test_a_read_for_another_port(self):
        nodes = [("a", "count", (0, 1), []), ("s", "split", (), ["a"]), ("l", "scale", (1, 0), ["s"]), ("r", "step", (2,), ["s"])]
        p = Playing(Net(nodes))
        p.set_breaks([("read", "a", 6)])
        self.assertEqual([p.go("l", 4), p.go("r", 9), p.go("l", 9)], [(4, item(3), None), (4, item(6), 0), (9, item(12), None)])
        p.undo(2)
        self.assertEqual([p.go("l", 9), p.go("r", 9)], [(3, item(6), 0), (9, item(16), None)])

    def test_a_pull_that_is_never_answered(self):
        p = Playing(tower(("count", (0, 1)), ("keep", (("below", 5),)))[0])
        p.set_breaks([("read", "a", 100), ("end",)])
        self.assertEqual(p.go("b", 9), (5, item(4), "never"))
        self.assertEqual(p.present().stuck(), "b")
        for call in (lambda: p.go("b", 1), lambda: p.go("b", 0), lambda: p.close("b")):
            with self.assertRaises(InvalidCall) as caught:
                call()
            self.assertEqual(caught.exception.call, "stuck")
        p.set_breaks([("item", ("below", 9))])
        self.assertEqual(len(p.log()), 3)
        p.undo(2)
        self.assertEqual((p.present().stuck(), p.go("b", 5), p.go("b", 3)), (None, (5, item(4), None), (0, None, "never")))
        p.undo(3)
        self.assertEqual((p.log(), p.go("b", 1)), ([], (1, item(0), None)))

    def test_far_breakpoints(self):
        odd = Net([("a", "ring", ([3, 1, 2],), []), ("b", "count", (0, 5), []), ("c", "zip", ("sum",), ["a", "b"])])
        p = Playing(odd)
        p.set_breaks([("item", ("from", 10 ** 20)), ("read", "a", 10 ** 25)])
        self.assertEqual(p.go("c", FAR), (2 * 10 ** 19 + 1, item(10 ** 20 + 2), 0))
        p.set_breaks([("read", "b", 10 ** 29), ("item", ("below", 0)), ("read", "a", 10 ** 25)])
        self.assertEqual(p.go("c", FAR)[::2], (10 ** 25 - 2 * 10 ** 19, 2))
        self.assertEqual(p.go("c", FAR)[::2], (10 ** 29 - 10 ** 25, 0))
        self.assertEqual(p.go("c", FAR)[::2], (FAR, None))
        self.assertEqual(p.present().reads("b"), 10 ** 29 + 1 + FAR)
        p.set_breaks([("item", ("mod", 100, [77]))])
        pulls, last, why = p.go("c", FAR)
        self.assertEqual((last[1] % 100, why), (77, 0))
        span = Playing(tower(("span", (0, 1, 10 ** 25)), ("closing", ("bye",)), ("step", (10 ** 5,)))[0])
        span.set_breaks([("end",), ("note",)])
        self.assertEqual(span.go("c", FAR), (10 ** 20 + 1, END, 0))
        self.assertEqual(span.go("c", FAR), (1, END, 0))
        span.set_breaks([("note",)])
        self.assertEqual(span.go("c", FAR), (FAR, END, None))
        faulty = Playing(tower(("count", (0, 1)), ("fault", (10 ** 28, "net")), ("ahead", (20,)))[0])
        faulty.set_breaks([("note",), ("error",)])
        self.assertEqual([faulty.go("c", FAR), faulty.go("c", 1)], [(10 ** 28 + 1, error(), 1), (1, item(10 ** 28), None)])

    def test_closes(self):
        p = Playing(Net([*NODES, ("z", "closing", ("bye",), ["c"])]))
        p.set_breaks([("note",), ("end",)])
        self.assertIs(p.close("z"), None)
        self.assertEqual(p.present().notes(), ["bye"])
        self.assertEqual([p.go("z", 5), p.go("z", 0)], [(1, END, 1), (0, None, None)])
        p.undo(3)
        self.assertEqual((p.present().notes(), p.go("z", 5)), ([], (3, END, 0)))
        self.assertEqual(p.go("z", 5), (1, END, 1))

    def test_equal_playings(self):
        one, other = Playing(net()), Playing(net())
        self.assertTrue(one == other)
        one.go("c", 1)
        self.assertFalse(one == other)
        other.go("c", 1)
        self.assertTrue(one == other)
        one.go("c", 0)
        one.undo(1)
        self.assertTrue(one == other)
        # The same state by other calls is not the same log.
        one.undo(1)
        one.set_breaks([])
        one.go("c", 1)
        self.assertTrue(one != other)
        self.assertFalse(Playing(net()) == Playing(Net(NODES[:2])))
        for value in [*strange_values(), net(), [], Machine(net())]:
            if not isinstance(value, Claimer) and repr(value) != "<ANY>":
                self.assertFalse(one == value, value)
        self.assertIs(one.__eq__(Claimer()), False)

    def test_lists_are_copied(self):
        p = Playing(net())
        breaks = [("item", ("mod", 3, [0]))]
        p.set_breaks(breaks)
        breaks[0][1][2].append(1)
        breaks.append(("end",))
        wanted = [("breaks", [("item", ("mod", 3, [0]))])]
        self.assertEqual(p.log(), wanted)
        found = p.log()
        found[0][1][0][1][2].clear()
        found.append(("go", "c", 1))
        self.assertEqual(p.log(), wanted)
        self.assertEqual(p.go("c", 9), (1, item(0), 0))
        log = p.log()
        again = replay(net(), log)
        log[0][1].clear()
        self.assertTrue(again == p)
        self.assertEqual(again.go("c", 9), (1, item(3), 0))
        p.base_net().node_list().clear()
        self.assertEqual(p.base_net(), net())


class ReplayTest(unittest.TestCase):

    def test_replay(self):
        log = [("breaks", [("read", "a", 2)]), ("go", "c", 10), ("close", "c"), ("go", "c", 3)]
        p = replay(net(), log)
        self.assertIs(type(p), Playing)
        self.assertEqual((p.log(), p.present().reads("a"), p.present().ended("c")), (log, 4, True))
        p.undo(2)
        self.assertEqual(p.go("c", 9), (9, END, None))
        self.assertTrue(replay(net(), []) == Playing(net()))
        self.assertTrue(replay(log=log, net=net()) == replay(net(), log))

    def test_errors(self):
        for value in [*[value for value in strange_values() if not isinstance(value, Net)], NODES, 5]:
            for log in ([], None):
                with self.assertRaises(InvalidCall) as caught:
                    replay(value, log)
                self.assertEqual(caught.exception.call, "net")
        right = [("breaks", []), ("go", "c", 1), ("close", "c")]
        for value in [value for value in strange_values() if not isinstance(value, list)] + [tuple(right), right * 334]:
            with self.assertRaises(InvalidRecord) as caught:
                replay(net(), value)
            self.assertEqual(caught.exception.at, -1)
        for call in [*strange_values(), ("go", "b", 1), ("go", "c"), ("go", "c", -1), ("go", "c", True), ("go", "c", FAR + 1),
                     ("go", "c", 1, 1), ["go", "c", 1], ("close",), ("close", "a"), ("close", ["c"]), ("breaks",), ("breaks", None),
                     ("breaks", [("read", "b", 1)]), ("breaks", ()), ("breaks", [("end",)] * 21), ("undo", 1), ("Go", "c", 1), "go", 1]:
            for at in (0, 2):
                with self.assertRaises(InvalidRecord) as caught:
                    replay(net(), [*right[:at], call, None])
                self.assertEqual(caught.exception.at, at, call)

    def test_the_error_of_the_first_call_that_fails(self):
        blind = tower(("count", (0, 1)), ("keep", (("below", 5),)))[0]
        with self.assertRaises(InvalidCall) as caught:
            replay(blind, [("go", "b", 9), ("breaks", []), ("close", "b")])
        self.assertEqual(caught.exception.call, "stuck")
        with self.assertRaises(InvalidRecord):
            replay(blind, [("go", "b", 9), ("close", "b"), ("close", "a")])
        heavy = tower(("ring", ([1] * 100,)), ("scale", (1, 0)))[0]
        with self.assertRaises(LimitExceeded) as caught:
            replay(heavy, [("go", "b", 9), ("breaks", [("item", ("mod", 51, []))]), ("go", "b", 1)])
        self.assertEqual(caught.exception.limit, 5000)
        self.assertEqual(len(replay(blind, [("go", "b", 0)] * 1000).log()), 1000)


class ErrorsTest(unittest.TestCase):

    def test_the_net(self):
        for value in [*[value for value in strange_values() if not isinstance(value, Net)], NODES, Machine(net())]:
            with self.assertRaises(InvalidCall) as caught:
                Playing(value)
            self.assertEqual(caught.exception.call, "net")

    def same_behind(self, p, call, kind, field, wanted):
        """A call raises an error and changes nothing."""
        before = p.log(), state_of(p.present())
        with self.assertRaises(PullError) as caught:
            call()
        self.assertIs(type(caught.exception), kind)
        found = getattr(caught.exception, field)
        self.assertTrue(found is wanted or found == wanted and type(found) is type(wanted), (found, wanted))
        self.assertEqual((p.log(), state_of(p.present())), before)

    def test_breaks(self):
        p = Playing(net())
        wrong = [("read", "b", 1), ("read", "a", -1), ("read", "a", True), ("read", "a", FAR + 1), ("read", "a"), ("read", ["a"], 1),
                 ("item",), ("item", 5), ("item", ("mod", 0, [])), ("item", ("from", True)), ("item", ("from", 1), 1), ("note", 1),
                 ("notes",), ("read",), ["end"], ("end", "end"), ("", ), (None,), "end", 5, None, ("given",), ("error", "net")]
        for value in wrong:
            for breaks in ([value], [("end",), value], [value] * 20):
                self.same_behind(p, lambda: p.set_breaks(breaks), InvalidBound, "part", "breaks")
        for value in [value for value in strange_values() if value != [] or value is False] + [(("end",),), [("end",)] * 21]:
            if not isinstance(value, list) or value:
                self.same_behind(p, lambda: p.set_breaks(value), InvalidBound, "part", "breaks")
        p.set_breaks(breaks=[("end",)] * 20)
        p.set_breaks([("read", "a", 0), ("read", "a", FAR), ("note",), ("error",), ("end",), ("item", ("not", ("mod", 100, [])))])

    def test_the_weight_of_tests(self):
        for many, modulus, fits in ((50, 100, True), (51, 100, False), (100, 50, True), (100, 51, False)):
            p = Playing(tower(("ring", ([1] * many,)), ("scale", (1, 0)))[0])
            breaks = [("end",), ("item", ("below", 3)), ("item", ("not", ("mod", modulus, [0])))]
            if fits:
                p.set_breaks(breaks)
            else:
                self.same_behind(p, lambda: p.set_breaks(breaks), LimitExceeded, "limit", 5000)
                self.same_behind(p, lambda: p.set_breaks([*breaks, None]), InvalidBound, "part", "breaks")

    def test_calls(self):
        p = Playing(net())
        for value in [*strange_values(), "a", "b", "x", ["c"], 0]:
            for n in (1, -1, None):
                self.same_behind(p, lambda: p.go(value, n), InvalidName, "name", value)
            self.same_behind(p, lambda: p.close(value), InvalidName, "name", value)
        for value in [*strange_values(), -1, FAR + 1, "1"]:
            self.same_behind(p, lambda: p.go("c", value), InvalidBound, "part", "n")
        for value in [*strange_values(), -1, 1, "0"]:
            self.same_behind(p, lambda: p.undo(value), InvalidBound, "part", "count")
        self.assertEqual((p.go(n=1, outlet="c"), p.close(outlet="c"), p.undo(count=2), p.undo(0), p.log()),
                         ((1, item(0), None), None, None, None, []))
        self.same_behind(p, lambda: p.undo(1), InvalidBound, "part", "count")
        p.go("c", FAR)

    def test_stuck_behind_the_others(self):
        p = Playing(tower(("count", (0, 1)), ("keep", (("below", 5),)))[0])
        p.go("b", 6)
        self.same_behind(p, lambda: p.go("a", 1), InvalidName, "name", "a")
        self.same_behind(p, lambda: p.go("b", -1), InvalidBound, "part", "n")
        self.same_behind(p, lambda: p.go("b", 1), InvalidCall, "call", "stuck")
        self.same_behind(p, lambda: p.close("b"), InvalidCall, "call", "stuck")
        self.same_behind(p, lambda: p.close("x"), InvalidName, "name", "x")

    def test_a_full_log(self):
        blind = tower(("count", (0, 1)), ("keep", (("below", 999),)))[0]
        p = replay(blind, [("go", "b", 1)] * 999 + [("breaks", [])])
        begun = time.monotonic()
        for call in (lambda: p.go("b", 1), lambda: p.go("b", 0), lambda: p.close("b"), lambda: p.set_breaks([])):
            self.same_behind(p, call, LimitExceeded, "limit", 1000)
        self.same_behind(p, lambda: p.go("b", -1), InvalidBound, "part", "n")
        self.same_behind(p, lambda: p.close("a"), InvalidName, "name", "a")
        self.same_behind(p, lambda: p.set_breaks(None), InvalidBound, "part", "breaks")
        p.undo(1)
        self.assertEqual(p.go("b", 1), (0, None, "never"))
        self.same_behind(p, lambda: p.go("b", 1), InvalidCall, "call", "stuck")
        self.same_behind(p, lambda: p.set_breaks([]), LimitExceeded, "limit", 1000)
        p.undo(1000)
        self.assertTrue(p == Playing(blind))
        self.assertLess(time.monotonic() - begun, 3)
        heavy = replay(tower(("ring", ([1] * 100,)), ("scale", (1, 0)))[0], [("breaks", [])] * 1000)
        self.same_behind(heavy, lambda: heavy.set_breaks([("item", ("mod", 51, []))]), LimitExceeded, "limit", 5000)


class DrawnTest(unittest.TestCase):

    def breaks(self, draw, nodes):
        found = []
        for _ in range(draw.randint(0, 3)):
            pick = draw.random()
            if pick < 0.35:
                found.append(("read", draw.choice([node[0] for node in nodes if node[1] in SOURCES]), draw.randint(0, 15)))
            elif pick < 0.7:
                found.append(("item", drawn_test(draw)))
            else:
                found.append((draw.choice(("note", "error", "end")),))
        return found

    def compare(self, where, p, plain):
        machine = p.present()
        self.assertEqual(p.log(), plain.calls, where)
        self.assertEqual(machine.notes(), plain.machine.notes(), where)
        self.assertEqual([machine.ended(name) for name in plain.machine.outlets],
                         [plain.machine.ended(name) for name in plain.machine.outlets], where)
        if machine.stuck() is None:
            for name, kind, _, _ in machine_nodes(machine):
                if kind in SOURCES:
                    self.assertEqual(machine.reads(name), plain.machine.reads(name), where)
                if kind == "split":
                    self.assertEqual(machine.buffer(name), plain.machine.buffer(name), where)

    def test_against_the_plain_machine(self):
        whys = {"never": 0, None: 0, 0: 0, 1: 0, 2: 0}
        for seed in range(900):
            draw = random.Random(seed)
            drawn = splitting_net(draw) if draw.random() < 0.3 else drawn_net(draw, 7)
            p, plain = Playing(drawn), PlainPlaying(drawn.node_list())
            names = outlets(drawn)
            for _ in range(draw.randint(1, 14)):
                where = (seed, drawn.node_list(), plain.calls)
                pick = draw.random()
                if pick < 0.25:
                    breaks = self.breaks(draw, drawn.node_list())
                    p.set_breaks(breaks)
                    plain.set_breaks(breaks)
                elif pick < 0.4:
                    count = draw.randint(0, min(len(plain.calls), 4))
                    p.undo(count)
                    plain.undo(count)
                elif p.present().stuck() is not None:
                    with self.assertRaises(InvalidCall):
                        p.go(draw.choice(names), 1)
                elif pick < 0.47:
                    outlet = draw.choice(names)
                    p.close(outlet)
                    plain.close(outlet)
                else:
                    outlet, n = draw.choice(names), draw.choice((0, 1, 3, 10, 30))
                    found = p.go(outlet, n)
                    self.assertEqual(found, plain.go(outlet, n), (where, outlet, n))
                    whys[found[2]] += 1
                    if found[2] == "never":
                        plain.machine.stuck_at = plain.machine.stuck_at or "stuck"
                self.compare(where, p, plain)
            self.assertTrue(replay(drawn, p.log()) == p, seed)
            self.assertEqual(state_of(replay(drawn, p.log()).present()), state_of(p.present()), seed)
        self.assertGreater(min(whys.values()), 15)

    def test_the_same_in_parts(self):
        stopped = 0
        for seed in range(600):
            draw = random.Random(5000 + seed)
            drawn = splitting_net(draw) if draw.random() < 0.3 else drawn_net(draw, 7)
            whole, parts = Playing(drawn), Playing(drawn)
            breaks = self.breaks(draw, drawn.node_list())
            breaks = [(part[0], part[1], draw.choice((part[2], 10 ** 20))) if part[0] == "read" else part for part in breaks]
            breaks += [("item", draw.choice((("from", 10 ** 18), ("below", -10 ** 19))))] * draw.randint(0, 1)
            for p in (whole, parts):
                p.set_breaks(breaks)
            for _ in range(4):
                outlet = draw.choice(outlets(drawn))
                n = draw.choice((7, 10 ** 25))
                first = draw.choice((1, 3, n // 2, n - 1))
                wanted = whole.go(outlet, n)
                found = parts.go(outlet, first)
                if found[2] is None:
                    rest = parts.go(outlet, n - first)
                    found = (first + rest[0], rest[1] if rest[1] is not None else found[1], rest[2])
                self.assertEqual(found, wanted, (seed, drawn.node_list(), breaks))
                self.assertEqual(state_of(whole.present()), state_of(parts.present()), seed)
                stopped += wanted[2] is not None
                if wanted[2] == "never":
                    break
        self.assertGreater(stopped, 300)


if __name__ == "__main__":
    unittest.main()
