"""Points [10] to [15]: what each kind of node gives, reads, forgets and keeps; results worked out by hand."""

import unittest

from makers import END, error, item, items, join, row, tower

from pullworks.machines import Machine
from pullworks.nets import Net

COUNT = ("count", (0, 1))


def pulled(net, outlet, many):
    """Return the results of so many pulls, and the numbers of reads of the first source behind each of them."""
    machine = Machine(net)
    source = net.node_list()[0][0]
    results, reads = [], []
    for _ in range(many):
        results.append(machine.pull(outlet))
        reads.append(machine.reads(source))
    return results, reads


class OneInputTest(unittest.TestCase):

    def check(self, kinds, results, reads):
        net, outlet = tower(*kinds)
        self.assertEqual(pulled(net, outlet, len(results)), (results, reads))

    def test_sources(self):
        self.check([("count", (7, -3))], items(7, 4, 1, -2), [1, 2, 3, 4])
        self.check([("span", (7, -3, 2))], [*items(7, 4), END, END], [1, 2, 3, 3])
        self.check([("span", (7, -3, 0))], [END, END], [1, 1])
        self.check([("ring", ([4, 9],))], items(4, 9, 4, 9, 4), [1, 2, 3, 4, 5])
        self.check([row(4, 9)], [*items(4, 9), END, END], [1, 2, 3, 3])
        self.check([row()], [END, END], [1, 1])

    def test_scale_and_table(self):
        self.check([COUNT, ("scale", (-2, 5))], items(5, 3, 1), [1, 2, 3])
        self.check([("count", (-1, 1)), ("table", ([10, 20, 30],))], items(30, 10, 20, 30), [1, 2, 3, 4])
        self.check([row(-5, 8), ("table", ([10, 20, 30],))], [*items(20, 30), END, END], [1, 2, 3, 3])

    def test_keep(self):
        self.check([COUNT, ("keep", (("mod", 3, [1]),))], items(1, 4, 7), [2, 5, 8])
        self.check([row(5, 1, 6, 2), ("keep", (("below", 3),))], [*items(1, 2), END, END], [2, 4, 5, 5])
        self.check([row(5, 1, 6), ("keep", (("from", 5),))], [*items(5, 6), END], [1, 3, 4])

    def test_keep_goes_on_behind_an_error(self):
        self.check([row(5, 6, 1, 7, 2), ("fault", (2, "net")), ("keep", (("below", 3),))],
                   [error(), *items(1, 2), END], [2, 3, 5, 6])

    def test_until(self):
        self.check([row(1, 2, 9, 3), ("until", (("below", 3),))], [*items(1, 2), END, END], [1, 2, 3, 3])
        self.check([row(9, 3), ("until", (("below", 3),))], [END, END], [1, 1])
        self.check([row(1, 2), ("fault", (1, "net")), ("until", (("below", 3),))], [item(1), error(), item(2), END],
                   [1, 1, 2, 3])

    def test_after(self):
        self.check([row(1, 2, 9, 3, 1), ("after", (("below", 3),))], [*items(9, 3, 1), END], [3, 4, 5, 6])
        self.check([row(1, 2), ("after", (("below", 3),))], [END, END], [3, 3])
        self.check([row(1, 2, 9), ("fault", (1, "net")), ("after", (("below", 3),))], [error(), item(9), END], [1, 3, 4])

    def test_take(self):
        self.check([COUNT, ("take", (2,))], [*items(0, 1), END, END], [1, 2, 2, 2])
        self.check([COUNT, ("take", (0,))], [END, END], [0, 0])
        self.check([row(5), ("take", (2,))], [item(5), END, END], [1, 2, 2])
        # An error is no item.
        self.check([COUNT, ("fault", (1, "net")), ("take", (2,))], [item(0), error(), item(1), END], [1, 1, 2, 2])

    def test_drop(self):
        self.check([COUNT, ("drop", (2,))], items(2, 3, 4), [3, 4, 5])
        self.check([COUNT, ("drop", (0,))], items(0, 1), [1, 2])
        self.check([row(5, 6), ("drop", (2,))], [END, END], [3, 3])
        self.check([COUNT, ("fault", (1, "net")), ("drop", (2,))], [error(), *items(2, 3)], [1, 3, 4])

    def test_step(self):
        self.check([COUNT, ("step", (3,))], items(0, 3, 6), [1, 4, 7])
        self.check([COUNT, ("step", (1,))], items(0, 1, 2), [1, 2, 3])
        self.check([row(5, 6, 7, 8, 9), ("step", (3,))], [*items(5, 8), END, END], [1, 4, 6, 6])
        self.check([COUNT, ("fault", (0, "net")), ("step", (3,))], [error(), *items(0, 3)], [0, 1, 4])
        self.check([COUNT, ("fault", (2, "net")), ("step", (3,))], [item(0), error(), *items(3, 6)], [1, 2, 4, 7])

    def test_batch(self):
        for how, wanted in (("first", (0, 3)), ("last", (2, 5)), ("many", (3, 3)), ("sum", (3, 12))):
            self.check([COUNT, ("batch", (3, how, "give"))], items(*wanted), [3, 6])
        for how, last in (("first", 3), ("last", 4), ("many", 2), ("sum", 7)):
            first = {"first": 0, "last": 2, "many": 3, "sum": 3}[how]
            lower = ("span", (0, 1, 5))
            self.check([lower, ("batch", (3, how, "give"))], [*items(first, last), END, END], [3, 6, 6, 6])
            self.check([lower, ("batch", (3, how, "lose"))], [item(first), END, END], [3, 6, 6])
        self.check([row(4, 5), ("batch", (2, "sum", "give"))], [item(9), END, END], [2, 3, 3])
        self.check([row(), ("batch", (2, "sum", "give"))], [END, END], [1, 1])

    def test_batch_keeps_its_items_behind_an_error(self):
        self.check([("count", (5, 1)), ("fault", (1, "net")), ("batch", (3, "sum", "give"))], [error(), *items(18, 27)],
                   [1, 3, 6])
        self.check([row(5, 6), ("fault", (1, "net")), ("batch", (3, "first", "give"))], [error(), item(5), END], [1, 3, 3])
        self.check([row(5, 6), ("fault", (1, "net")), ("batch", (3, "first", "lose"))], [error(), END], [1, 3])
        self.check([row(5, 6), ("fault", (2, "net")), ("batch", (3, "many", "give"))], [error(), item(2), END], [2, 3, 3])

    def test_pairs(self):
        self.check([row(5, 3, 9), ("pairs", ())], [*items(-2, 6), END, END], [2, 3, 4, 4])
        self.check([row(5), ("pairs", ())], [END, END], [2, 2])
        self.check([row(5, 3, 9), ("fault", (1, "net")), ("pairs", ())], [error(), *items(-2, 6), END], [1, 2, 3, 4])
        self.check([row(5, 3, 9), ("fault", (0, "net")), ("pairs", ())], [error(), *items(-2, 6), END], [0, 2, 3, 4])

    def test_heads(self):
        self.check([row(5, 5, 3, 3, 3, 5), ("heads", ())], [*items(5, 3, 5), END, END], [1, 3, 6, 7, 7])
        self.check([row(5, 5, 5), ("fault", (1, "net")), ("heads", ())], [item(5), error(), END], [1, 1, 4])

    def test_items_that_are_equal_in_one_round_only(self):
        # 0, 6, 2, 7, 4, 8 and so on: twice an item is equal to the one before, 10 from one round to the next and 12 in round 6.
        lower = [("count", (0, 2))], [("count", (6, 1))]
        nodes = join("turns", (), *lower).node_list()
        machine = Machine(Net([*nodes, ("y", "heads", (), ["z"])]))
        found = [value for at in range(40) for value in (2 * at, 6 + at)]
        self.assertEqual((found[9:14], found[14:16]), ([10, 10, 11, 12, 12], [14, 13]))
        self.assertEqual([machine.pull("y") for _ in range(78)], items(*found[:10], 11, 12, *found[14:]))
        self.assertEqual(machine.reads("a") + machine.reads("b"), 80)
        machine = Machine(Net([*nodes, ("y", "lengths", (), ["z"])]))
        self.assertEqual([machine.pull("y") for _ in range(60)], items(*[1] * 9, 2, 1, 2, *[1] * 48))

    def test_lengths(self):
        self.check([row(5, 5, 3, 3, 3, 5), ("lengths", ())], [*items(2, 3, 1), END, END], [3, 6, 7, 7, 7])
        self.check([row(), ("lengths", ())], [END, END], [1, 1])
        self.check([row(4), ("lengths", ())], [item(1), END], [2, 2])
        self.check([row(5, 5, 3), ("fault", (1, "net")), ("lengths", ())], [error(), *items(2, 1), END], [1, 3, 4, 4])

    def test_stutter(self):
        self.check([row(5, 3), ("stutter", (3,))], [*items(5, 5, 5, 3, 3, 3), END, END], [1, 1, 1, 2, 2, 2, 3, 3])
        self.check([row(5, 3), ("fault", (1, "net")), ("stutter", (2,))], [*items(5, 5), error(), *items(3, 3), END],
                   [1, 1, 1, 2, 2, 3])

    def test_ahead(self):
        self.check([COUNT, ("ahead", (0,))], items(0, 1, 2), [1, 2, 3])
        self.check([COUNT, ("ahead", (3,))], items(0, 1, 2), [4, 5, 6])
        self.check([row(5, 6), ("ahead", (0,))], [*items(5, 6), END, END], [1, 2, 3, 3])
        self.check([row(5, 6), ("ahead", (1,))], [*items(5, 6), END, END], [2, 3, 3, 3])
        self.check([row(5, 6), ("ahead", (20,))], [*items(5, 6), END], [3, 3, 3])
        self.check([row(), ("ahead", (2,))], [END, END], [1, 1])
        # An error is held, too, and counts as one of the results.
        self.check([row(5, 6, 7), ("fault", (1, "net")), ("ahead", (1,))], [item(5), error(), *items(6, 7), END],
                   [1, 2, 3, 4, 4])

    def test_fault(self):
        self.check([COUNT, ("fault", (0, "net"))], [error(), *items(0, 1)], [0, 1, 2])
        self.check([COUNT, ("fault", (2, "net"))], [*items(0, 1), error(), *items(2)], [1, 2, 2, 3])
        self.check([row(5), ("fault", (1, "net"))], [item(5), error(), END], [1, 1, 2])
        # It has ended before its pull number 2.
        self.check([row(5), ("fault", (2, "net"))], [item(5), END, END], [1, 2, 2])
        # An error from below is a pull of its own.
        self.check([COUNT, ("fault", (1, "one")), ("fault", (2, "two"))],
                   [item(0), error("one"), error("two"), *items(1, 2)], [1, 1, 1, 2, 3])

    def test_dying(self):
        self.check([COUNT, ("fault", (1, "net")), ("dying", ())], [item(0), error(), END, END], [1, 1, 1, 1])
        self.check([row(5), ("dying", ())], [item(5), END, END], [1, 2, 2])

    def test_calm(self):
        lower = [COUNT, ("fault", (1, "net")), ("fault", (2, "net"))]
        self.check([*lower, ("calm", ("stop",))], [item(0), END, END], [1, 1, 1])
        self.check([*lower, ("calm", ("skip",))], items(0, 1, 2), [1, 2, 3])
        self.check([row(5), ("fault", (1, "net")), ("calm", ("skip",))], [item(5), END], [1, 2])


class SeveralInputsTest(unittest.TestCase):

    def check(self, net, results, *reads):
        """Compare results and the numbers of reads of "a", of "b" and so on behind all of them."""
        machine = Machine(net)
        self.assertEqual([machine.pull("z") for _ in results], results)
        self.assertEqual([machine.reads("abcdefghij"[at]) for at in range(len(reads))], list(reads))

    def test_chain(self):
        self.check(join("chain", (), [row(1, 2)], [row()], [row(3)]), [*items(1, 2, 3), END, END], 3, 1, 2)
        self.check(join("chain", (), [row()], [row()]), [END], 1, 1)
        # The pull that meets the end of the first input gets the error of the second one.
        net = join("chain", (), [row(1)], [row(2), ("fault", (0, "net"))])
        self.check(net, [item(1), error()], 2, 0)
        self.check(net, [item(1), error(), item(2), END], 2, 2)

    def test_zip(self):
        lower = [row(1, 2, 3)], [row(10, 20)], [row(7, 8, 9)]
        for how, wanted in (("first", (1, 2)), ("last", (7, 8)), ("sum", (18, 30))):
            self.check(join("zip", (how,), *lower), items(*wanted), 2, 2, 2)
            # The third input is not pulled behind the end of the second one.
            self.check(join("zip", (how,), *lower), [*items(*wanted), END, END], 3, 3, 2)

    def test_zip_loses_items_behind_an_error(self):
        net = join("zip", ("sum",), [COUNT], [COUNT, ("fault", (1, "net"))], [COUNT])
        self.check(net, [item(0), error()], 2, 1, 1)
        self.check(net, [item(0), error(), item(2 + 1 + 1)], 3, 2, 2)

    def test_longest(self):
        lower = [row(1, 2, 3)], [row(10)], [row(7, 8)]
        for how, wanted in (("first", (1, 2, 3)), ("last", (7, 8, 50)), ("sum", (18, 60, 103))):
            self.check(join("longest", (50, how), *lower), [*items(*wanted), END, END], 4, 2, 3)
        self.check(join("longest", (50, "sum"), [row()], [row()]), [END], 1, 1)
        self.check(join("longest", (50, "sum"), [row()], [row(1)]), [item(51), END], 1, 2)

    def test_longest_does_not_pull_an_ended_input_again_behind_an_error(self):
        net = join("longest", (50, "sum"), [row(1)], [COUNT, ("fault", (1, "net"))])
        self.check(net, [item(1), error(), item(51), item(52)], 2, 3)

    def test_turns(self):
        self.check(join("turns", (), [row(1, 2)], [row(10)], [row(7, 8, 9)]), [*items(1, 10, 7, 2, 8, 9), END, END], 3, 2, 4)
        self.check(join("turns", (), [row()], [row()]), [END], 1, 1)
        # Behind an error it is the turn of the next input.
        self.check(join("turns", (), [COUNT, ("fault", (1, "net"))], [row(7, 8)]),
                   [*items(0, 7), error(), *items(8, 1, 2)], 3, 3)

    def test_choose(self):
        self.check(join("choose", (), [row(0, 1, 5, -2, 4)], [("count", (100, 1))], [("count", (200, 1))]),
                   [*items(100, 200, 201, 101, 102), END, END], 6, 3, 2)
        # The end of the chosen input ends it.
        self.check(join("choose", (), [row(1, 0, 1)], [COUNT], [row(9)]), [*items(9, 0), END, END], 3, 1, 2)
        # Behind an error the item of the control is lost.
        self.check(join("choose", (), [row(0, 1, 1)], [COUNT], [row(9), ("fault", (0, "net"))]),
                   [item(0), error(), item(9), END],
                   4, 1, 1)
        self.check(join("choose", (), [COUNT, ("fault", (1, "net"))], [row(7, 8, 9)]),
                   [item(7), error(), *items(8, 9), END], 4, 4)


class SplitTest(unittest.TestCase):

    def two(self, *kinds):
        lower = tower(*kinds)[0].node_list()
        return Net([*lower, ("s", "split", (), [lower[-1][0]]), ("l", "scale", (1, 0), ["s"]), ("r", "scale", (1, 0), ["s"])])

    def test_ports_get_the_same_results(self):
        machine = Machine(self.two(row(5, 6), ("fault", (1, "net"))))
        found = []
        for outlet in "lllrlrrrr":
            found.append((machine.pull(outlet), machine.reads("a"), machine.buffer("s")))
        self.assertEqual(found, [
            (item(5), 1, 1), (error(), 1, 2), (item(6), 2, 3), (item(5), 2, 2), (END, 3, 2), (error(), 3, 1), (item(6), 3, 0),
            (END, 3, 0), (END, 3, 0)])

    def test_ports_of_one_node(self):
        net = Net([("a", "count", (0, 1), []), ("s", "split", (), ["a"]), ("d", "drop", (2,), ["s"]),
                   ("z", "zip", ("sum",), ["s", "d", "s"])])
        machine = Machine(net)
        self.assertEqual([machine.pull("z") for _ in range(3)], items(0 + 2 + 0, 1 + 3 + 1, 2 + 4 + 2))
        self.assertEqual((machine.reads("a"), machine.buffer("s")), (5, 2))

    def test_a_split_over_a_split(self):
        net = Net([("a", "count", (0, 1), []), ("s", "split", (), ["a"]), ("t", "split", (), ["s"]),
                   ("x", "scale", (1, 0), ["t"]),
                   ("y", "scale", (10, 0), ["t"]), ("z", "scale", (100, 0), ["s"])])
        machine = Machine(net)
        self.assertEqual([machine.pull(name) for name in "xxyz"], items(0, 1, 0, 0))
        self.assertEqual([machine.reads("a"), machine.buffer("s"), machine.buffer("t")], [2, 1, 1])

    def test_the_buffer_counts_ports_of_nodes_that_have_ended(self):
        net = Net([("a", "count", (0, 1), []), ("s", "split", (), ["a"]), ("l", "take", (1,), ["s"]),
                   ("r", "scale", (1, 0), ["s"])])
        machine = Machine(net)
        self.assertEqual([machine.pull(name) for name in "llrrr"], [item(0), END, *items(0, 1, 2)])
        self.assertEqual(machine.buffer("s"), 2)
        machine.close("l")
        self.assertEqual(machine.buffer("s"), 0)

    def test_the_buffer_does_not_count_the_end(self):
        machine = Machine(self.two(row(5)))
        self.assertEqual([machine.pull("l"), machine.pull("l"), machine.buffer("s")], [item(5), END, 1])


class CloseTest(unittest.TestCase):

    def test_a_closed_outlet_is_ended_and_reads_nothing(self):
        net, outlet = tower(COUNT, ("scale", (1, 0)))
        machine = Machine(net)
        self.assertEqual([machine.pull(outlet), machine.close(outlet), machine.pull(outlet)], [item(0), None, END])
        self.assertEqual((machine.reads("a"), machine.ended(outlet)), (1, True))
        self.assertEqual(machine.pull_times(outlet, 5), (0, 0, END))
        self.assertEqual(machine.pull_times(outlet, 0), (0, 0, None))

    def test_notes_are_written_once_in_order(self):
        net = join("zip", ("sum",), [COUNT, ("closing", ("left",))], [COUNT, ("closing", ("right",)), ("closing", ("upper",))])
        machine = Machine(net)
        self.assertEqual(machine.notes(), [])
        machine.close("z")
        self.assertEqual(machine.notes(), ["left", "upper", "right"])
        machine.close("z")
        self.assertEqual(machine.notes(), ["left", "upper", "right"])

    def test_a_note_is_written_ahead_of_the_first_end_or_error(self):
        net, outlet = tower(row(5), ("closing", ("lower",)), ("closing", ("upper",)))
        machine = Machine(net)
        machine.pull(outlet)
        self.assertEqual(machine.notes(), [])
        machine.pull(outlet)
        self.assertEqual(machine.notes(), ["lower", "upper"])
        machine.pull(outlet)
        machine.close(outlet)
        self.assertEqual(machine.notes(), ["lower", "upper"])
        net, outlet = tower(COUNT, ("fault", (1, "net")), ("closing", ("done",)))
        machine = Machine(net)
        self.assertEqual([machine.pull(outlet), machine.notes(), machine.ended(outlet)], [item(0), [], False])
        self.assertEqual([machine.pull(outlet), machine.notes(), machine.ended(outlet)], [error(), ["done"], True])
        self.assertEqual(machine.pull(outlet), END)

    def test_notes_within_one_pull_come_as_its_inputs_are_pulled(self):
        # The turn is with "b" when all have ended: "b", "c" and "a" end in one pull.
        lower = [("closing", (word,)) for word in ("first", "second", "third")]
        net = join("turns", (), [("span", (0, 1, 2)), lower[0]], [row(7), lower[1]], [row(8), lower[2]])
        machine = Machine(net)
        self.assertEqual([machine.pull("z") for _ in range(4)], items(0, 7, 8, 1))
        self.assertEqual((machine.notes(), machine.pull("z"), machine.notes()), ([], END, ["second", "third", "first"]))
        # Far out, between items: the input whose turn it is comes first.
        net = join("turns", (), [("span", (0, 1, 10 ** 29)), lower[0]], [("span", (0, 1, 10 ** 29 - 1)), lower[1]], [COUNT])
        machine = Machine(net)
        self.assertEqual(machine.pull_times("z", 3 * 10 ** 29 - 2), (3 * 10 ** 29 - 2, 0, item(10 ** 29 - 1)))
        self.assertEqual((machine.notes(), machine.pull("z"), machine.notes()), ([], item(10 ** 29 - 1), ["second"]))
        self.assertEqual((machine.pull("z"), machine.notes()), (item(10 ** 29), ["second", "first"]))

    def test_a_node_that_has_ended_by_itself_can_be_closed(self):
        net, outlet = tower(COUNT, ("closing", ("done",)), ("take", (1,)))
        machine = Machine(net)
        self.assertEqual([machine.pull(outlet), machine.pull(outlet), machine.notes()], [item(0), END, []])
        machine.close(outlet)
        self.assertEqual(machine.notes(), ["done"])

    def test_two_closing_nodes_with_the_same_note(self):
        net, outlet = tower(COUNT, ("closing", ("bye",)), ("closing", ("bye",)))
        machine = Machine(net)
        machine.close(outlet)
        self.assertEqual(machine.notes(), ["bye", "bye"])

    def test_the_input_of_a_split_is_closed_with_its_last_port(self):
        net = Net([("a", "count", (0, 1), []), ("c", "closing", ("below",), ["a"]), ("s", "split", (), ["c"]),
                   ("l", "closing", ("left",), ["s"]), ("r", "closing", ("right",), ["s"])])
        machine = Machine(net)
        machine.close("r")
        self.assertEqual((machine.notes(), machine.pull("l"), machine.ended("r")), (["right"], item(0), True))
        self.assertEqual((machine.pull("l"), machine.buffer("s")), (item(1), 0))
        machine.close("l")
        self.assertEqual((machine.notes(), machine.buffer("s"), machine.pull("l")), (["right", "left", "below"], 0, END))

    def test_the_last_port_is_closed_ahead_of_later_inputs(self):
        net = Net([("a", "count", (0, 1), []), ("c", "closing", ("below",), ["a"]), ("s", "split", (), ["c"]),
                   ("d", "count", (0, 1), []), ("e", "closing", ("beside",), ["d"]), ("z", "chain", (), ["s", "s", "e"])])
        machine = Machine(net)
        machine.close("z")
        self.assertEqual(machine.notes(), ["below", "beside"])

    def test_a_node_never_closes_its_inputs_by_itself(self):
        net = join("zip", ("sum",), [row(1)], [COUNT, ("closing", ("bye",))])
        machine = Machine(net)
        self.assertEqual([machine.pull("z"), machine.pull("z"), machine.pull("z"), machine.notes()], [item(1), END, END, []])


class EndedTest(unittest.TestCase):

    def test_ended(self):
        for kinds, wanted in (
                ([COUNT, ("take", (1,))], [False, False, True]), ([row(5)], [False, False, True]),
                ([row(5), ("ahead", (3,))], [False, False, True]), ([row(5), ("lengths", ())], [False, False, True]),
                ([row(5), ("batch", (2, "sum", "give"))], [False, False, True]), ([COUNT, ("take", (0,))], [False, True, True]),
                ([COUNT, ("fault", (0, "net")), ("dying", ())], [False, True, True]),
                ([COUNT, ("fault", (0, "net")), ("closing", ("bye",))], [False, True, True]),
                ([row(), ("dying", ())], [False, True, True]), ([COUNT, ("fault", (0, "net"))], [False, False, False]),
                ([COUNT, ("fault", (0, "net")), ("calm", ("stop",))], [False, True, True])):
            with self.subTest(kinds):
                net, outlet = tower(*kinds)
                machine = Machine(net)
                found = [machine.ended(outlet)]
                for _ in range(2):
                    machine.pull(outlet)
                    found.append(machine.ended(outlet))
                self.assertEqual(found, wanted)


if __name__ == "__main__":
    unittest.main()
