"""Points [2], [4], [19] and [22]: what is no schedule, the limits, the order of the errors, and what stays as it was."""

import copy
import unittest

from makers import FAR, Claimer, chain_of, count, strange_values, tower

from pullworks.errors import InvalidBound, InvalidName, InvalidSchedule, LimitExceeded
from pullworks.machines import Machine
from pullworks.nets import Net, load
from pullworks.schedules import check_schedule, done_steps, first_round, run, tallies

PULL = ("pull", "b", 1)


def plain_net():
    """Return a net of weight 1 without loops, with the outlets "b" and "c"."""
    return Net([("a", "count", (0, 1), []), ("b", "scale", (1, 0), ["a"]), ("c", "count", (0, 1), [])])


def wrong_steps():
    """Return values that are no steps for this net."""
    numbers = [-1, FAR + 1, True, False, None, "1", [1], (1,)]
    names = ["a", "x", "", "B", None, 0, True, ["b"], ("b",), b"b", Claimer()]
    found = [value for value in strange_values() if value != PULL]
    found += [("pull",), ("pull", "b"), ("pull", "b", 1, 1), ["pull", "b", 1], ("pulls", "b", 1), (b"pull", "b", 1),
              ("pull", 1, "b")]
    found += [("pull", "b", number) for number in numbers] + [("pull", name, 1) for name in names]
    found += [("close",), ("close", "b", 1), ["close", "b"], ("closed", "b"),
              (Claimer(), "b")] + [("close", name) for name in names]
    found += [("repeat",), ("repeat", 1), ("repeat", 1, [PULL], 1), ["repeat", 1, [PULL]], ("repeat", [PULL], 1)]
    found += [("repeat", number, [PULL]) for number in numbers]
    found += [("repeat", 1, steps) for steps in ([], (PULL,), None, PULL, {}, "b", [PULL] * 21, [PULL, None],
                                                 [("pull", "a", 1)])]
    inner = ("repeat", 1, [PULL])
    found += [("repeat", 1, [("repeat", 1, [inner])]), ("repeat", 1, [PULL, ("repeat", 1, [PULL, inner])])]
    return found


class WrongStepsTest(unittest.TestCase):

    def assert_wrong(self, net, steps, at):
        for call in (check_schedule, run, tallies, done_steps):
            with self.assertRaises(InvalidSchedule) as caught:
                call(net, steps)
            self.assertEqual(caught.exception.at, at)
        for outlet, result in (("b", "end"), ("x", "end"), (None, None)):
            with self.assertRaises(InvalidSchedule) as caught:
                first_round(net, steps, outlet, result)
            self.assertEqual(caught.exception.at, at)

    def test_no_list_of_such_a_length(self):
        for value in [*strange_values(), (PULL,), {0: PULL}, PULL, "steps", [PULL] * 21, [None] * 21, range(0)]:
            if value not in ([], [1]) and not (isinstance(value, list) and len(value) <= 20):
                with self.subTest(repr(value)):
                    self.assert_wrong(plain_net(), value, -1)

    def test_steps_that_are_none(self):
        for step in wrong_steps():
            with self.subTest(repr(step)):
                self.assert_wrong(plain_net(), [step], 0)
                self.assert_wrong(plain_net(), [PULL, ("close", "c"), step, PULL], 2)
                self.assert_wrong(plain_net(), [PULL] * 19 + [step], 19)

    def test_steps_that_contain_one_that_is_none(self):
        for step in wrong_steps():
            with self.subTest(repr(step)):
                self.assert_wrong(plain_net(), [PULL, ("repeat", 3, [PULL, step])], 1)
                self.assert_wrong(plain_net(), [("repeat", 0, [("repeat", 0, [step, PULL])])], 0)

    def test_the_first_of_two(self):
        self.assert_wrong(plain_net(), [PULL, ("repeat", 1, [None]), None], 1)
        self.assert_wrong(plain_net(), [PULL, None, ("repeat", 1, [None])], 1)

    def test_a_list_that_contains_itself(self):
        steps = [PULL]
        steps.append(("repeat", 1, steps))
        self.assert_wrong(plain_net(), steps, 1)

    def test_right_steps(self):
        inner = [("repeat", 2, [("pull", "c", 1)] * 20)] * 20
        for steps in ([], [PULL] * 20, [("pull", "b", 0)], [("pull", "c", FAR)], [("close", "b")] * 20, [("repeat", 0, [PULL])],
                      [("repeat", FAR, inner)], [("repeat", 1, [("close", "c"), ("repeat", FAR, [PULL])])]):
            self.assertIs(check_schedule(plain_net(), steps), None)
            self.assertIs(done_steps(plain_net(), steps), None)
            self.assertIs(type(run(plain_net(), steps)), Machine)

    def test_arguments_by_name(self):
        net = plain_net()
        self.assertIs(check_schedule(net=net, steps=[PULL]), None)
        self.assertEqual(tallies(steps=[PULL], net=net), [("b", 1, 0, 0), ("c", 0, 0, 0)])
        self.assertIs(done_steps(net=net, steps=[PULL]), None)
        self.assertEqual(run(net=net, steps=[PULL]).reads("a"), 1)
        self.assertEqual(first_round(net=net, steps=[PULL, ("close", "b")], outlet="b", result="end"), 1)

    def test_each_in_its_file(self):
        for one in (check_schedule, run, tallies, done_steps, first_round):
            self.assertEqual(one.__module__, "pullworks.schedules")


class LimitTest(unittest.TestCase):

    def verdict(self, net, steps):
        """Return whether a schedule keeps the limit, and the same for one that is repeated for ever."""
        found = []
        for call in (lambda: check_schedule(net, steps), lambda: run(net, steps), lambda: tallies(net, steps),
                     lambda: done_steps(net, steps), lambda: first_round(net, steps, "b", "end")):
            try:
                call()
                found.append(True)
            except LimitExceeded as error:
                self.assertEqual(error.limit, 10000)
                found.append(False)
        self.assertEqual(len(set(found[:4])), 1)
        return found[0], found[4]

    def nested(self, depth, step=PULL):
        for _ in range(depth):
            step = ("repeat", 2, [step, ("close", "b")])
        return [("close", "b"), step]

    def test_weights(self):
        for weighs, wanted in (
                (48, [(True, True), (True, False), (False, False)]), (49, [(True, False), (False, False), (False, False)]),
                (9, [(True, True), (True, True), (True, False)]), (10, [(True, True), (True, False), (False, False)]),
                (3, [(True, True), (True, True), (True, True)]), (4, [(True, True), (True, True), (True, False)]),
                (200, [(True, False), (False, False), (False, False)])):
            # With two tables a weight of up to 200 can be made.
            tables = [("table", ([1] * (weighs if weighs <= 100 else 100),)),
                      ("table", ([1] * (1 if weighs <= 100 else weighs // 100),))]
            net = tower(("count", (0, 1)), ("scale", (1, 0)))[0]
            net = Net([("x", "count", (0, 1), []), ("y", *tables[0], ["x"]), ("b", *tables[1], ["y"])])
            self.assertEqual([self.verdict(net, self.nested(depth)) for depth in range(3)], wanted, weighs)

    def test_loops(self):
        for many, wanted in ((1, [(True, True)] * 3), (2, [(True, True)] * 2 + [(True, False)]),
                             (3, [(True, True), (True, False), (False, False)]),
                             (4, [(True, False), (False, False), (False, False)])):
            nodes = chain_of([("drop", (1,))] * (many - 1))
            net = Net([*nodes, ("b", "drop", (1,), [nodes[-1][0]])])
            self.assertEqual(load(net, 1), 5 ** (many + 1))
            self.assertEqual([self.verdict(net, self.nested(depth)) for depth in range(3)], wanted, many)

    def test_the_deepest_repeat_counts(self):
        net = Net([("x", "ring", ([1] * 48,), []), ("b", "scale", (1, 0), ["x"])])
        flat, deep = ("repeat", 2, [PULL]), ("repeat", 2, [("repeat", 2, [PULL])])
        self.assertEqual(self.verdict(net, [flat, flat, flat]), (True, False))
        self.assertEqual(self.verdict(net, [flat, deep, flat]), (False, False))
        self.assertEqual(self.verdict(net, [("repeat", 0, [PULL, ("repeat", 0, [PULL])])]), (False, False))

    def test_schedules_without_pulls_and_repeats(self):
        net = Net([("x", "ring", ([1] * 100,), []), ("b", "scale", (1, 0), ["x"])])
        self.assertEqual(self.verdict(net, []), (True, True))
        self.assertEqual(self.verdict(net, [("close", "b")] * 3), (True, True))
        self.assertEqual(self.verdict(net, [("close", "b"), ("pull", "b", 0)]), (True, False))
        self.assertEqual(self.verdict(net, [("repeat", 1, [("close", "b")])]), (False, False))

    def test_steps_that_are_none_go_ahead_of_the_limit(self):
        net = Net([("x", "ring", ([1] * 100,), []), ("b", "scale", (1, 0), ["x"])])
        for steps in ([("repeat", 1, [PULL]), None], [("repeat", 1, [PULL]), ("repeat", 1, [None])]):
            for call in (lambda: check_schedule(net, steps), lambda: run(net, steps),
                         lambda: first_round(net, steps, "b", "end")):
                with self.assertRaises(InvalidSchedule) as caught:
                    call()
                self.assertEqual(caught.exception.at, 1)


class FirstRoundErrorsTest(unittest.TestCase):

    def test_no_outlet(self):
        for value in [*strange_values(), "a", "x", ["b"], ("b",), b"b", 0]:
            for result in ("end", "item", None):
                with self.subTest(repr(value), result=result):
                    with self.assertRaises(InvalidName) as caught:
                        first_round(plain_net(), [PULL], value, result)
                    self.assertIs(caught.exception.name, value)

    def test_no_result(self):
        for value in [*strange_values(), "item", "never", "ends", "End", ("end",), ["end"], b"end", 0]:
            with self.subTest(repr(value)):
                with self.assertRaises(InvalidBound) as caught:
                    first_round(plain_net(), [PULL], "b", value)
                self.assertEqual(caught.exception.part, "result")

    def test_the_limit_goes_ahead_of_both(self):
        net = Net([("x", "ring", ([1] * 49,), []), ("b", "scale", (1, 0), ["x"])])
        self.assertIs(check_schedule(net, [PULL]), None)
        for outlet, result in (("b", "end"), ("x", "end"), ("b", "x"), (None, None)):
            with self.assertRaises(LimitExceeded) as caught:
                first_round(net, [PULL], outlet, result)
            self.assertEqual(caught.exception.limit, 10000)
        # Without pulls there is no limit that goes ahead.
        with self.assertRaises(InvalidName):
            first_round(net, [("close", "b")], "x", "x")
        with self.assertRaises(InvalidBound):
            first_round(net, [("close", "b")], "b", "x")


class UnchangedTest(unittest.TestCase):

    def test_schedules_stay_as_they_were(self):
        steps = [("pull", "b", 2), ("repeat", 3, [("pull", "c", 1), ("repeat", 2, [("close", "b"), ("pull", "b", 1)])])]
        before = copy.deepcopy(steps)
        net = plain_net()
        for _ in range(2):
            check_schedule(net, steps)
            self.assertEqual(tallies(net, steps), [("b", 2, 0, 6), ("c", 3, 0, 0)])
            self.assertIs(done_steps(net, steps), None)
            self.assertEqual(first_round(net, steps, "b", "end"), 0)
            machine = run(net, steps)
            machine.pull("c")
            self.assertEqual(machine.reads("c"), 4)
        self.assertEqual(steps, before)
        self.assertEqual(net, plain_net())

    def test_returned_values_belong_to_the_caller(self):
        net = plain_net()
        found = tallies(net, [PULL])
        found.append(None)
        self.assertEqual(tallies(net, [PULL]), [("b", 1, 0, 0), ("c", 0, 0, 0)])
        one, other = run(net, [PULL]), run(net, [PULL])
        one.pull_times("b", 5)
        one.close("c")
        self.assertEqual((other.reads("a"), other.ended("c")), (1, False))

    def test_a_schedule_that_is_changed_afterwards(self):
        inner = [("pull", "b", 1)]
        steps = [("repeat", 2, inner)]
        machine = run(plain_net(), steps)
        inner.append(("close", "b"))
        steps.clear()
        self.assertEqual((machine.ended("b"), machine.reads("a")), (False, 2))

    def test_nets_of_one_node(self):
        self.assertEqual(tallies(Net([count("b")]), [PULL]), [("b", 1, 0, 0)])


if __name__ == "__main__":
    unittest.main()
