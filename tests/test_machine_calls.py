"""Points [2], [4] and [16] to [18]: what can be asked of a machine, wrong arguments, stuck machines, and copies."""

import unittest

from makers import END, FAR, Claimer, error, item, items, strange_values, tower

from pullworks.errors import InvalidBound, InvalidCall, InvalidName, PullError
from pullworks.machines import Machine
from pullworks.nets import Net

COUNT = ("count", (0, 1))

METHODS = ("pull", "pull_times", "close", "reads", "buffer", "notes", "ended", "stuck", "copy")


def rich_net():
    """Return a net with the outlets "l", "r" and "z", a split "s", and "l" that is stuck behind its item 4."""
    return Net([("a", "count", (0, 1), []), ("c", "closing", ("bye",), ["a"]), ("s", "split", (), ["c"]),
                ("l", "keep", (("below", 5),), ["s"]), ("r", "closing", ("over",), ["s"]), ("z", "span", (0, 1, 3), [])])


def stuck_machine():
    machine = Machine(rich_net())
    machine.pull("r")
    machine.close("z")
    machine.pull_times("l", 6)
    return machine


def asked(machine):
    """Return all that can be asked of a machine, also of one that is stuck."""
    found = [machine.notes(), machine.stuck(), [machine.ended(name) for name in "lrz"]]
    if machine.stuck() is None:
        found += [machine.reads("a"), machine.reads("z"), machine.buffer("s")]
    return found


class CallsTest(unittest.TestCase):

    def assert_raises(self, kind, field, value, call, *arguments, **named):
        with self.assertRaises(kind) as caught:
            call(*arguments, **named)
        self.assertIs(type(caught.exception), kind)
        self.assertIsInstance(caught.exception, PullError)
        if isinstance(value, str):
            self.assertEqual(getattr(caught.exception, field), value)
        else:
            self.assertIs(getattr(caught.exception, field), value)

    def test_the_interface(self):
        self.assertEqual(Machine.__module__, "pullworks.machines")
        for method in (*METHODS, "__init__"):
            self.assertIn(method, vars(Machine))

    def test_arguments_by_name(self):
        machine = Machine(net=rich_net())
        self.assertEqual(machine.pull(outlet="r"), item(0))
        self.assertEqual(machine.pull_times(outlet="r", n=2), (2, 0, item(2)))
        self.assertEqual(machine.pull_times(n=1, outlet="l"), (1, 0, item(0)))
        self.assertEqual((machine.reads(name="a"), machine.buffer(name="s")), (3, 2))
        self.assertIs(machine.close(outlet="r"), None)
        self.assertIs(machine.ended(outlet="r"), True)
        self.assertIs(machine.ended(outlet="l"), False)

    def test_kinds_of_values(self):
        machine = Machine(rich_net())
        self.assertIs(type(machine.pull("z")), tuple)
        self.assertIs(type(machine.pull_times("z", 1)), tuple)
        for value in (machine.reads("a"), machine.buffer("s")):
            self.assertIs(type(value), int)
        self.assertIs(type(machine.notes()), list)
        self.assertIs(type(machine.copy()), Machine)
        self.assertIs(machine.stuck(), None)

    def test_no_net(self):
        for value in [*strange_values(), [COUNT], "net", 1, Machine(rich_net()), rich_net().node_list()]:
            with self.subTest(repr(value)):
                self.assert_raises(InvalidCall, "call", "net", Machine, value)

    def test_no_outlet(self):
        machine = Machine(rich_net())
        for value in [*strange_values(), "a", "c", "s", "x", "L", "l ", ["l"], ("l",), {"l"}, b"l", 0, item(0), rich_net()]:
            with self.subTest(repr(value)):
                self.assert_raises(InvalidName, "name", value, machine.pull, value)
                self.assert_raises(InvalidName, "name", value, machine.pull_times, value, 1)
                self.assert_raises(InvalidName, "name", value, machine.close, value)
                self.assert_raises(InvalidName, "name", value, machine.ended, value)
        self.assertEqual(asked(machine), asked(Machine(rich_net())))

    def test_no_source_and_no_split(self):
        machine = Machine(rich_net())
        for value in [*strange_values(), "x", "l", "c", ["a"], ("a",), b"a", 0]:
            with self.subTest(repr(value)):
                self.assert_raises(InvalidName, "name", value, machine.reads, value)
                self.assert_raises(InvalidName, "name", value, machine.buffer, value)
        self.assert_raises(InvalidName, "name", "s", machine.reads, "s")
        self.assert_raises(InvalidName, "name", "a", machine.buffer, "a")
        self.assertEqual((machine.reads("a"), machine.reads("z"), machine.buffer("s")), (0, 0, 0))

    def test_no_number_of_pulls(self):
        machine = Machine(rich_net())
        for value in [*strange_values(), -1, -FAR, FAR + 1, 10 ** 31, "1", [1], (1,)]:
            with self.subTest(repr(value)):
                self.assert_raises(InvalidBound, "part", "n", machine.pull_times, "r", value)
                self.assert_raises(InvalidName, "name", "x", machine.pull_times, "x", value)
        self.assertEqual(asked(machine), asked(Machine(rich_net())))
        self.assertEqual(machine.pull_times("r", 0), (0, 0, None))
        self.assertEqual(machine.pull_times("r", FAR), (FAR, 0, item(FAR - 1)))

    def test_a_subclass_of_int_that_is_no_bool(self):
        class Number(int):
            pass

        self.assertEqual(Machine(rich_net()).pull_times("r", Number(2)), (2, 0, item(1)))

    def test_stuck(self):
        machine = stuck_machine()
        self.assertEqual((machine.stuck(), machine.notes()), ("l", []))
        self.assertEqual([machine.ended(name) for name in "lrz"], [False, False, True])
        for name in "lrz":
            self.assert_raises(InvalidCall, "call", "stuck", machine.pull, name)
            self.assert_raises(InvalidCall, "call", "stuck", machine.pull_times, name, 0)
            self.assert_raises(InvalidCall, "call", "stuck", machine.pull_times, name, 5)
            self.assert_raises(InvalidCall, "call", "stuck", machine.close, name)
        self.assert_raises(InvalidCall, "call", "stuck", machine.reads, "a")
        self.assert_raises(InvalidCall, "call", "stuck", machine.reads, "z")
        self.assert_raises(InvalidCall, "call", "stuck", machine.buffer, "s")

    def test_stuck_behind_the_errors_for_arguments(self):
        machine = stuck_machine()
        self.assert_raises(InvalidName, "name", "x", machine.pull, "x")
        self.assert_raises(InvalidName, "name", "x", machine.pull_times, "x", -1)
        self.assert_raises(InvalidBound, "part", "n", machine.pull_times, "l", -1)
        self.assert_raises(InvalidBound, "part", "n", machine.pull_times, "l", True)
        self.assert_raises(InvalidName, "name", "a", machine.close, "a")
        self.assert_raises(InvalidName, "name", "s", machine.reads, "s")
        self.assert_raises(InvalidName, "name", "a", machine.buffer, "a")
        self.assert_raises(InvalidName, "name", "a", machine.ended, "a")

    def test_a_copy_of_a_stuck_machine(self):
        machine = stuck_machine()
        other = machine.copy()
        self.assertEqual(asked(other), asked(machine))
        self.assert_raises(InvalidCall, "call", "stuck", other.pull, "r")
        self.assertEqual(other.copy().stuck(), "l")

    def test_a_copy_goes_on_apart(self):
        machine = Machine(rich_net())
        machine.pull_times("r", 3)
        other = machine.copy()
        self.assertEqual(asked(other), asked(machine))
        before = asked(machine)
        other.pull("l")
        other.pull("z")
        other.close("r")
        self.assertEqual(asked(machine), before)
        self.assertEqual(machine.pull("r"), item(3))
        self.assertEqual((other.notes(), other.pull("r"), other.buffer("s")), (["over"], END, 2))
        other.pull_times("l", 9)
        self.assertEqual((other.stuck(), machine.stuck()), ("l", None))

    def test_returned_lists_belong_to_the_caller(self):
        machine = Machine(rich_net())
        machine.close("r")
        notes = machine.notes()
        notes.append("more")
        self.assertEqual(machine.notes(), ["over"])
        machine.close("l")
        self.assertEqual(machine.notes(), ["over", "bye"])
        self.assertEqual(notes, ["over", "more"])

    def test_nets_and_nodes_stay_as_they_were(self):
        nodes = rich_net().node_list()
        net = Net(nodes)
        machine = Machine(net)
        nodes[0] = ("a", "row", ([],), [])
        net.node_list().clear()
        machine.pull_times("r", 5)
        machine.close("r")
        self.assertEqual(net, rich_net())
        self.assertEqual(net.node_list(), rich_net().node_list())
        self.assertEqual(Machine(net).pull("r"), item(0))

    def test_machines_of_one_net_go_on_apart(self):
        net = rich_net()
        one, other = Machine(net), Machine(net)
        one.pull_times("r", 7)
        one.close("l")
        self.assertEqual((other.pull("l"), other.reads("a"), other.notes()), (item(0), 1, []))

    def test_lists_within_nodes_are_copied(self):
        numbers = [5, 6]
        nodes = [("a", "ring", (numbers,), [])]
        net = Net(nodes)
        machine = Machine(net)
        machine.pull("a")
        numbers[1] = 9
        nodes[0][2][0].append(8)
        self.assertEqual([machine.pull("a"), machine.pull("a")], items(6, 5))
        self.assertEqual(Machine(net).pull_times("a", 2), (2, 0, item(6)))


class NeverTest(unittest.TestCase):

    def check(self, kinds, results, name, reads=None):
        net, outlet = tower(*kinds)
        machine = Machine(net)
        self.assertEqual([machine.pull(outlet) for _ in results], results)
        if reads is not None:
            self.assertEqual(machine.reads("a"), reads)
        self.assertEqual((machine.pull(outlet), machine.stuck()), (("never", name), name))
        errors = len([result for result in results if result[0] == "error"])
        machine = Machine(net)
        self.assertEqual(machine.pull_times(outlet, FAR), (len(results) - errors, errors, ("never", name)))
        self.assertEqual(machine.stuck(), name)
        machine = Machine(net)
        self.assertEqual(machine.pull_times(outlet, len(results) + 1), (len(results) - errors, errors, ("never", name)))
        machine = Machine(net)
        self.assertEqual(machine.pull_times(outlet, len(results))[:2], (len(results) - errors, errors))
        self.assertIs(machine.stuck(), None)

    def test_each_kind_that_may_go_on_for_ever(self):
        self.check([COUNT, ("keep", (("below", 2),))], items(0, 1), "b", 2)
        self.check([COUNT, ("keep", (("mod", 5, []),))], [], "b", 0)
        self.check([("count", (0, 2)), ("keep", (("mod", 4, [1, 3]),))], [], "b")
        self.check([COUNT, ("after", (("from", 0),))], [], "b")
        self.check([COUNT, ("after", (("mod", 1, [0]),))], [], "b")
        self.check([("ring", ([7],)), ("heads", ())], items(7), "b", 1)
        self.check([("count", (7, 0)), ("lengths", ())], [], "b")
        self.check([("ring", ([7, 7, 7],)), ("lengths", ())], [], "b")

    def test_behind_other_results(self):
        self.check([COUNT, ("fault", (1, "net")), ("keep", (("below", 2),))], [item(0), error(), item(1)], "c", 2)
        self.check([("ring", ([7],)), ("fault", (1, "net")), ("heads", ())], [item(7), error()], "c", 1)
        self.check([COUNT, ("scale", (0, 3)), ("fault", (5, "net")), ("lengths", ())], [error()], "d", 5)
        self.check([COUNT, ("table", ([4, 4, 6],)), ("after", (("from", 4),)), ("fault", (0, "net"))], [error()], "c", 0)

    def test_below_other_nodes(self):
        for upper in (
                ("scale", (2, 0)), ("drop", (3,)), ("step", (2,)), ("batch", (3, "sum", "give")), ("pairs", ()),
                ("ahead", (0,)), ("fault", (9, "net")), ("dying", ()), ("calm", ("skip",)), ("closing", ("bye",)),
                ("heads", ()), ("keep", (("from", 0),)), ("after", (("below", 1),)), ("until", (("from", 0),)),
                ("take", (9,)), ("lengths", ())):
            net, outlet = tower(("ring", ([1],)), ("heads", ()), ("keep", (("from", 2),)), upper)
            machine = Machine(net)
            self.assertEqual((machine.pull(outlet), machine.stuck()), (("never", "b"), "b"))

    def test_the_innermost_node_whose_pulls_are_answered(self):
        # "b" answers each pull of "c", which goes on; "d" and "e" wait for "c".
        answered, waiting = ("keep", (("from", 0),)), ("keep", (("below", 0),))
        self.check([COUNT, answered, waiting, ("step", (2,)), answered], [], "c")
        self.check([COUNT, ("scale", (2, 0)), answered, ("step", (2,)), waiting], [], "e")
        self.check([COUNT, ("keep", (("mod", 2, [0]),)), ("keep", (("mod", 2, [1]),)), ("take", (5,))], [], "c")

    def test_beside_another_outlet(self):
        machine = Machine(rich_net())
        self.assertEqual([machine.pull("l") for _ in range(5)], items(0, 1, 2, 3, 4))
        self.assertEqual((machine.pull_times("r", FAR), machine.buffer("s")), ((FAR, 0, item(FAR - 1)), FAR - 5))
        self.assertEqual((machine.pull("l"), machine.stuck()), (("never", "l"), "l"))

    def test_joins_that_wait(self):
        for kind, parameters, results in (
                ("chain", (), items(5, 6)), ("zip", ("sum",), []), ("longest", (0, "sum"), []), ("turns", (), items(5)),
                ("choose", (), [])):
            net = Net([("a", "row", ([5, 6],), []), ("b", "ring", ([1],), []), ("k", "keep", (("below", 1),), ["b"]),
                       ("z", kind, parameters, ["a", "k"])])
            machine = Machine(net)
            self.assertEqual([machine.pull("z") for _ in results], results)
            self.assertEqual((machine.pull("z"), machine.stuck()), (("never", "k"), "k"))

    def test_notes_that_are_written_in_a_pull_that_is_never_answered(self):
        net = Net([("a", "span", (0, 1, 3), []), ("c", "closing", ("first",), ["a"]), ("b", "count", (5, 1), []),
                   ("d", "closing", ("second",), ["b"]), ("y", "chain", (), ["c", "d"]), ("z", "keep", (("below", 0),), ["y"]),
                   ("u", "closing", ("upper",), ["z"])])
        machine = Machine(net)
        self.assertEqual((machine.pull("u"), machine.notes()), (("never", "z"), ["first"]))
        self.assertEqual(machine.copy().notes(), ["first"])

    def test_what_is_read_ahead_of_the_loop(self):
        # The note of "c" is written in the pull that never comes back from "k".
        net = Net([("a", "row", ([],), []), ("c", "closing", ("bye",), ["a"]), ("b", "count", (0, 1), []),
                   ("k", "keep", (("below", 0),), ["b"]), ("z", "longest", (0, "sum"), ["c", "k"])])
        machine = Machine(net)
        self.assertEqual((machine.pull("z"), machine.notes()), (("never", "k"), ["bye"]))

    def test_inputs_that_are_not_pulled_write_no_notes(self):
        net = Net([("b", "count", (0, 1), []), ("k", "keep", (("below", 0),), ["b"]), ("a", "row", ([],), []),
                   ("c", "closing", ("bye",), ["a"]), ("z", "longest", (0, "sum"), ["k", "c"])])
        machine = Machine(net)
        self.assertEqual((machine.pull("z"), machine.notes()), (("never", "k"), []))

    def test_notes_below_a_node_that_reads_ahead(self):
        lower = [("a", "row", ([5, 6],), []), ("c", "closing", ("bye",), ["a"]), ("d", "count", (0, 1), []),
                 ("y", "chain", (), ["c", "d"]), ("k", "keep", (("from", 6),), ["y"]), ("l", "until", (("below", 9),), ["k"]),
                 ("m", "keep", (("below", 8),), ["k"])]
        # "k" gives 6, 6, 7, 8 and so on; "m" gives 6, 6, 7 and then goes on for ever.
        for held, answered, early in ((0, 3, []), (2, 1, ["bye"]), (3, 0, []), (20, 0, [])):
            net = Net([*lower[:5], lower[6], ("z", "ahead", (held,), ["m"])])
            machine = Machine(net)
            self.assertEqual([machine.pull("z") for _ in range(answered)], items(6, 6, 7)[:answered])
            if held == 2:
                self.assertEqual(machine.notes(), early)
            self.assertEqual((machine.pull("z"), machine.notes()), (("never", "m"), ["bye"]))
        # Within the first pull of "z" the loop itself meets the end of "c".
        net = Net([lower[0], lower[1], lower[2], lower[3], ("m", "keep", (("below", 0),), ["y"]), ("z", "ahead", (4,), ["m"])])
        machine = Machine(net)
        self.assertEqual((machine.pull("z"), machine.notes()), (("never", "m"), ["bye"]))

    def test_a_closed_outlet_is_never_stuck(self):
        net, outlet = tower(COUNT, ("keep", (("below", 0),)))
        machine = Machine(net)
        machine.close(outlet)
        self.assertEqual((machine.pull(outlet), machine.stuck()), (END, None))

    def test_claims_of_objects(self):
        machine = Machine(rich_net())
        for call in (machine.pull, machine.close, machine.reads, machine.buffer, machine.ended):
            with self.assertRaises(InvalidName):
                call(Claimer())


if __name__ == "__main__":
    unittest.main()
