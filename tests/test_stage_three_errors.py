"""Points [2] and [4] for [34] to [52]: wrong arguments in every place, their order, limits, and what stays as it was."""

import copy
import unittest

from makers import FAR, strange_values

from pullworks.comparing import agreements, first_difference, first_read_difference, same_results
from pullworks.errors import (InvalidBound, InvalidCall, InvalidEvent, InvalidName, InvalidSchedule, LimitExceeded, PullError)
from pullworks.events import count_events, event_at, event_count, event_of, events_from, state_behind
from pullworks.failing import close_effect, ended_nodes, error_places, error_ways, exposure, note_places, raised
from pullworks.nets import Net
from pullworks.splits import (best_order, endless_size, first_above, greatest_size, order_size, places, ports,
                              pulls_within)


def net():
    return Net([("a", "count", (0, 1), []), ("f", "fault", (9, "net"), ["a"]), ("s", "split", (), ["f"]),
                ("l", "scale", (1, 0), ["s"]), ("c", "closing", ("bye",), ["s"]), ("b", "count", (0, 1), [])])


def steps():
    return [("pull", "l", 3), ("repeat", 2, [("pull", "c", 1), ("close", "c")])]


NUMBERS = [*strange_values(), -1, -FAR, FAR + 1, 10 ** 31, "1", [1], (1,)]

NAMES = [*strange_values(), "x", "Z", ["l"], ("l",), {"l"}, b"l", 0]

SCHEDULES = [(value, -1) for value in strange_values() if value not in ([],) and not isinstance(value, list)] + [
    ([("pull", "l", 1)] * 21, -1), ((("pull", "l", 1),), -1), ("", -1), ([1], 0), ([("pull", "l", 1), ("pull", "a", 1)], 1),
    ([("pull", "l", True)], 0), ([("close", "s")], 0), ([("repeat", 1, [])], 0), ([("repeat", 1, [("pull", "l", -1)])], 0)]

ORDERS = [(value, -1) for value in (None, "l", ("l",), {"l": 1}, 0, ["l"] * 1001)] + [
    (["l", "a"], 1), (["l", "c", ["l"]], 2), ([True], 0), ([None], 0), (["s"], 0)]

GOALS = [(value, -1) for value in (None, "l", (("l", 1),), {"l": 1}, 0)] + [
    ([("l", 1), ("l", 1)], 1), ([("l", True)], 0), ([("l", -1)], 0), ([("l", 1001)], 0), ([["l", 1]], 0), ([("l",)], 0),
    ([("l", 1), ("s", 1)], 1), ([("l", 1, 1)], 0), ([(["l"], 1)], 0), ([("l", 1), None], 1), ([("c", "1")], 0)]

# For each sort of argument: wrong values, and the error with its field; the value itself if the field has no fixed content.
WRONG = {
    "steps": [(value, InvalidSchedule, "at", at) for value, at in SCHEDULES],
    "split": [(value, InvalidName, "name", value) for value in [*NAMES, "l", "a"]],
    "outlet": [(value, InvalidName, "name", value) for value in [*NAMES, "s", "a", "f"]],
    "place": [(value, InvalidName, "name", value) for value in [*NAMES, "s", "a", "f"]],
    "fault": [(value, InvalidName, "name", value) for value in [*NAMES, "s", "a", "l"]],
    "source": [(value, InvalidName, "name", value) for value in [*NAMES, "s", "l", "f"]],
    "number": [(value, InvalidEvent, "number", value) for value in NUMBERS],
    "bound": [(value, InvalidBound, "part", "bound") for value in NUMBERS],
    "n": [(value, InvalidBound, "part", "n") for value in NUMBERS],
    "first": [(value, InvalidBound, "part", "first") for value in NUMBERS],
    "many": [(value, InvalidBound, "part", "many") for value in [*NUMBERS, 1001]],
    "sort": [(value, InvalidBound, "part", "sort") for value in [*NAMES, "reads", "end", "item"]],
    "read": [(value, InvalidName, "name", value) for value in [*NAMES, "l", "bye", "s"]],
    "note": [(value, InvalidName, "name", value) for value in [*NAMES, "c", "net", "a"]],
    "given": [(value, InvalidName, "name", value) for value in [*NAMES, "a", "bye", "s"]],
    "order": [(value, InvalidSchedule, "at", at) for value, at in ORDERS],
    "goals": [(value, InvalidSchedule, "at", at) for value, at in GOALS],
}

# Each function with its arguments in the order in which they are checked: (name, right value, sort of wrong values or None).
N, S = ("net", net, None), ("steps", steps, "steps")


def value(name, right, sort=None):
    return name, lambda: right, sort


CALLS = [
    (ports, [N, value("split", "s", "split")]),
    (places, [N, S, value("split", "s", "split")]),
    (greatest_size, [N, S, value("split", "s", "split")]),
    (first_above, [N, S, value("split", "s", "split"), value("bound", 1, "bound")]),
    (pulls_within, [N, S, value("split", "s", "split"), value("outlet", "l", "outlet"), value("bound", 1, "bound")]),
    (endless_size, [N, S, value("split", "s", "split")]),
    (order_size, [N, value("split", "s", "split"), value("order", ["l", "c"], "order")]),
    (best_order, [N, value("split", "s", "split"), value("goals", [("l", 2), ("c", 3)], "goals")]),
    (error_ways, [N, value("name", "f", "fault")]),
    (raised, [N, S]),
    (exposure, [N, S, value("name", "f", "fault")]),
    (error_places, [N, S]),
    (note_places, [N, S]),
    (ended_nodes, [N, S]),
    (close_effect, [N, S, value("outlet", "l", "outlet")]),
    (event_at, [N, S, value("number", 3, "number")]),
    (event_count, [N, S]),
    (events_from, [N, S, value("first", 3, "number"), value("many", 3, "many")]),
    (count_events, [N, S, value("sort", "read", "sort"), value("name", "a", "read")]),
    (count_events, [N, S, value("sort", "note", "sort"), value("name", "bye", "note")]),
    (event_of, [N, S, value("sort", "given", "sort"), value("name", "l", "given"), value("index", 1, "number")]),
    (event_of, [N, S, value("sort", "closed", "sort"), value("name", "c", "given"), value("index", 1, "number")]),
    (state_behind, [N, S, value("number", 3, "number")]),
    (first_difference, [("one", net, None), value("outlet", "l", "outlet"), ("other", net, None), value("place", "c", "place"),
                        value("first", 3, "first")]),
    (first_read_difference, [("one", net, None), value("outlet", "l", "outlet"), ("other", net, None),
                             value("place", "c", "place"), value("source", "a", "source")]),
    (agreements, [("one", net, None), value("outlet", "l", "outlet"), ("other", net, None), value("place", "c", "place"),
                  value("n", 3, "n")]),
    (same_results, [("one", net, None), ("other", net, None)]),
]


def called(call, arguments):
    """Call with values by position, but for what is passed by name only."""
    if call is first_difference:
        return call(*arguments[:4], first=arguments[4])
    return call(*arguments)


class WrongArgumentsTest(unittest.TestCase):

    def assert_raises(self, call, arguments, kind, field, wanted):
        with self.assertRaises(PullError) as caught:
            called(call, arguments)
        self.assertIs(type(caught.exception), kind)
        found = getattr(caught.exception, field)
        self.assertTrue(found is wanted or type(found) is type(wanted) and found == wanted, (found, wanted))

    def test_each_place(self):
        for call, parts in CALLS:
            for at, (name, _, sort) in enumerate(parts):
                for wrong, *error in WRONG[sort] if sort else ():
                    with self.subTest(call.__name__, name=name, wrong=repr(wrong)):
                        arguments = [make() for _, make, _ in parts]
                        arguments[at] = wrong
                        self.assert_raises(call, arguments, *error)

    def test_two_wrong_arguments(self):
        for call, parts in CALLS:
            for at, (_, _, sort) in enumerate(parts):
                if not sort:
                    continue
                for behind in range(at + 1, len(parts)):
                    if not parts[behind][2]:
                        continue
                    arguments = [make() for _, make, _ in parts]
                    wrong, *error = WRONG[sort][-1]
                    arguments[at], arguments[behind] = wrong, WRONG[parts[behind][2]][-1][0]
                    with self.subTest(call.__name__, at=at, behind=behind):
                        self.assert_raises(call, arguments, *error)

    def test_arguments_by_name(self):
        for call, parts in CALLS:
            by_place = called(call, [make() for _, make, _ in parts])
            by_name = call(**{name: make() for name, make, _ in parts[::-1]})
            self.assertEqual(by_place, by_name, call.__name__)
            self.assertEqual(repr(by_place), repr(by_name), call.__name__)

    def test_first_by_name_only(self):
        with self.assertRaises(TypeError):
            first_difference(net(), "l", net(), "c", 3)

    def test_nothing_is_changed(self):
        for call, parts in CALLS:
            arguments = [make() for _, make, _ in parts]
            before = [copy.deepcopy(part.node_list() if isinstance(part, Net) else part) for part in arguments]
            first = called(call, arguments)
            if isinstance(first, list):
                first.append("x")
            again = called(call, arguments)
            after = [part.node_list() if isinstance(part, Net) else part for part in arguments]
            self.assertEqual(before, after, call.__name__)
            if isinstance(first, list):
                self.assertEqual(first, [*again, "x"], call.__name__)

    def test_each_in_its_file(self):
        names = {call.__name__: call.__module__ for call, _ in CALLS}
        files = {"splits": "ports places greatest_size first_above pulls_within endless_size order_size best_order",
                 "failing": "error_ways raised exposure error_places note_places ended_nodes close_effect",
                 "events": "event_at event_count events_from count_events event_of state_behind",
                 "comparing": "first_difference first_read_difference agreements same_results"}
        self.assertEqual(names, {name: "pullworks." + file for file, row in files.items() for name in row.split()})


def weighing(many, *kinds):
    """Return a net with a split whose weight is so great, and the outlets "l" and "r"."""
    nodes = [("a", "ring", ([1] * many,), []), ("d", "take", (0,), ["a"]), ("b", "count", (0, 1), [])]
    top = "b"
    for at, (kind, parameters) in enumerate(kinds):
        nodes.append(("k" + "abcdefgh"[at], kind, parameters, [top]))
        top = nodes[-1][0]
    return Net([*nodes, ("s", "split", (), [top]), ("l", "scale", (1, 0), ["s"]), ("r", "scale", (1, 0), ["s"])])


class LimitTest(unittest.TestCase):

    def test_of_schedules(self):
        # (2 * 48 + 3) ** 2 is 9801, (2 * 49 + 3) ** 2 is 10201.
        for many, depth, wanted in ((48, 1, True), (49, 1, False), (49, 0, True), (9, 2, True), (10, 2, False)):
            inner = [("pull", "l", 1)]
            for _ in range(depth):
                inner = [("repeat", 2, inner)]
            for call, parts in CALLS:
                if parts[1][0] != "steps" or call in (exposure, endless_size):
                    continue
                arguments = [make() for _, make, _ in parts]
                arguments[:2] = [weighing(many), inner]
                found = None
                try:
                    called(call, arguments)
                except LimitExceeded as error:
                    found = error.limit
                except (InvalidName, InvalidEvent):
                    pass
                self.assertEqual(found, None if wanted else 10000, (call.__name__, many, depth))

    def test_of_endless_sizes(self):
        for many, steps_of, wanted in ((48, [("pull", "l", 1)], True), (49, [("pull", "l", 1)], False), (49, [("close", "l")], True),
                                       (9, [("repeat", 1, [("pull", "l", 1)])], True),
                                       (10, [("repeat", 1, [("pull", "l", 1)])], False)):
            if wanted:
                endless_size(weighing(many), steps_of, "s")
                continue
            for split in ("s", "x"):
                with self.assertRaises(LimitExceeded) as caught:
                    endless_size(weighing(many), steps_of, split)
                self.assertEqual(caught.exception.limit, 10000)

    def test_of_pulls_within(self):
        # With one more pull a schedule has the depth 1 at least; the loads of nets have it, too.
        heavy = weighing(100)
        self.assertIs(pulls_within(heavy, [("close", "l")], "s", "r", 5), None)
        self.assertEqual(pulls_within(heavy, [("pull", "l", 1)], "s", "r", 5), 6)
        for split in ("s", "x"):
            with self.assertRaises(LimitExceeded) as caught:
                pulls_within(heavy, [("repeat", 1, [("close", "l")])], split, "r", 5)
            self.assertEqual(caught.exception.limit, 10000)

    def test_stuck_behind_all_others(self):
        blind = Net([("a", "count", (0, 1), []), ("s", "split", (), ["a"]), ("l", "keep", (("below", 1),), ["s"]),
                     ("r", "heads", (), ["s"])])
        stuck = [("pull", "l", 2)]
        for ask, kind in ((lambda: places(blind, stuck, "x"), InvalidName), (lambda: places(blind, stuck, "s"), InvalidCall),
                          (lambda: pulls_within(blind, stuck, "x", "r", 1), InvalidName),
                          (lambda: pulls_within(blind, stuck, "s", "x", 1), InvalidName),
                          (lambda: pulls_within(blind, stuck, "s", "r", -1), InvalidBound),
                          (lambda: pulls_within(blind, stuck, "s", "r", 1), InvalidCall),
                          (lambda: close_effect(blind, stuck, "x"), InvalidName),
                          (lambda: close_effect(blind, stuck, "l"), InvalidCall)):
            with self.assertRaises(kind):
                ask()

    def test_of_orders(self):
        many = {"l": 9, "r": 99}
        self.assertEqual(best_order(weighing(1), "s", list(many.items()))[0], 90)
        for goals in ([("l", 9), ("r", 100)], [("l", 1000)], [("l", 1000), ("r", 0)]):
            with self.assertRaises(LimitExceeded) as caught:
                best_order(weighing(1), "s", goals)
            self.assertEqual(caught.exception.limit, 1000)
            with self.assertRaises(InvalidName):
                best_order(weighing(1), "x", goals)
            with self.assertRaises(InvalidSchedule) as caught:
                best_order(weighing(1), "s", [*goals, ("x", 1)])
            self.assertEqual(caught.exception.at, len(goals))

    def test_of_nets_compared(self):
        def sized(many, *kinds):
            return Net([("a", "ring", ([1] * many,), []), *[("k" + "abc"[at], kind, parameters, ["ka"[:2] if at else "a"])
                                                            for at, (kind, parameters) in enumerate(kinds)]])
        # (2 * 4998 + 3) is 9999; with a loop (2 * 48 + 3) ** 2 is 9801.
        heavy = [(sized(100), "a", sized(49), "a", True), (sized(100), "a", sized(50), "a", False),
                 (sized(16), "a", sized(3, ("heads", ())), "ka", True), (sized(7), "a", sized(7, ("heads", ())), "ka", False)]
        for one, outlet, other, place, wanted in heavy:
            asks = [lambda: first_difference(one, outlet, other, place), lambda: agreements(one, outlet, other, place, 5),
                    lambda: first_read_difference(one, outlet, other, place, "a"), lambda: same_results(one, other)]
            for ask in asks:
                if wanted:
                    ask()
                    continue
                with self.assertRaises(LimitExceeded) as caught:
                    ask()
                self.assertEqual(caught.exception.limit, 10000)
        one, outlet, other, place, _ = heavy[1]
        for ask, kind in ((lambda: first_difference(one, "x", other, place), InvalidName),
                          (lambda: first_difference(one, outlet, other, "x"), InvalidName),
                          (lambda: first_difference(one, outlet, other, place, first=-1), InvalidBound),
                          (lambda: agreements(one, outlet, other, place, -1), InvalidBound),
                          (lambda: first_read_difference(one, outlet, other, place, "x"), InvalidName)):
            with self.assertRaises(kind):
                ask()
        # Unlike outlets do not go ahead of the limit.
        with self.assertRaises(LimitExceeded):
            same_results(sized(100), sized(50, ("scale", (1, 0))))

    def test_sources_of_both_nets(self):
        one = Net([("a", "count", (0, 1), []), ("b", "count", (0, 1), [])])
        other = Net([("a", "count", (0, 1), []), ("b", "scale", (1, 0), ["a"])])
        self.assertIs(first_read_difference(one, "a", other, "b", "a"), None)
        for first, outlet, second, place in ((one, "a", other, "b"), (other, "b", one, "a")):
            with self.assertRaises(InvalidName) as caught:
                first_read_difference(first, outlet, second, place, "b")
            self.assertEqual(caught.exception.name, "b")


if __name__ == "__main__":
    unittest.main()
