"""Points [2] and [4] for [23] to [33]: wrong arguments in every place, their order, limits, and what stays as it was."""

import unittest

from makers import FAR, nots, strange_values, tower

from pullworks.demands import dearest, items_ahead, needed, served, spent
from pullworks.errors import InvalidBound, InvalidName, InvalidTest, LimitExceeded
from pullworks.items import count_passing, first_passing, greatest_item, item_at, item_count, window
from pullworks.nets import Net

FROM = ("from", 0)

WRONG_NUMBERS = [*strange_values(), -1, -FAR, FAR + 1, 10 ** 31, "1", b"1", [1], (1,)]

WRONG_TESTS = [
    *strange_values(), "from", 0, ("from",), ("from", True), ("from", FAR + 1), ("below", "1"), ("mod", 0, []),
    ("mod", 101, []), ("mod", 3, [3]),
    ("mod", 3, [1, 1]), ("mod", 3, [2, 1]), ("mod", 3, (1,)), ("not", FROM, FROM), nots(4, FROM), ["from", 0], ("From", 0)]

WRONG_NAMES = [*strange_values(), "s", "x", "Z", ["z"], ("z",), {"z"}, b"z", 0]


def net():
    """Return a net with the outlets "z" and "y" and the sources "a" and "b", "b" only for "z"."""
    return Net([("a", "count", (0, 1), []), ("s", "split", (), ["a"]), ("b", "span", (0, 1, 9), []),
                ("z", "turns", (), ["s", "b"]),
                ("y", "step", (2,), ["s"])])


def weighing(many):
    """Return a net of this weight with the outlet "z"."""
    return Net([("a", "ring", ([1] * many,), []), ("z", "scale", (1, 0), ["a"])])


# Each function with right arguments, and for each place behind the net the error for wrong ones.
CALLS = [
    (item_at, ["z", 3], ["outlet", "index"]),
    (item_count, ["z"], ["outlet"]),
    (first_passing, ["z", FROM, 3], ["outlet", "test", "start"]),
    (count_passing, ["z", FROM, 3], ["outlet", "test", "many"]),
    (window, ["z", 3, 4], ["outlet", "first", "few"]),
    (greatest_item, ["z", 3], ["outlet", "many"]),
    (needed, ["z", 3], ["outlet", "items"]),
    (spent, ["z", 3, 4], ["outlet", "first", "after"]),
    (items_ahead, ["z", "a", 3], ["outlet", "source", "number"]),
    (served, ["z", "a", 3], ["outlet", "source", "number"]),
    (dearest, ["z", "a", 3], ["outlet", "source", "pulls"]),
]


def wrong_values(sort):
    """Return wrong values for an argument, and the error, its field, and what this is, or None for the value itself."""
    if sort == "outlet":
        return [*WRONG_NAMES, "a", "b"], InvalidName, "name", None
    if sort == "source":
        return [*WRONG_NAMES, "z", "y"], InvalidName, "name", None
    if sort == "test":
        return WRONG_TESTS, InvalidTest, "test", None
    if sort == "few":
        return [*WRONG_NUMBERS, 1001, FAR], InvalidBound, "part", "many"
    if sort == "after":
        return [value for value in WRONG_NUMBERS if value not in (FAR + 1, 10 ** 31)] + [0, 2], InvalidBound, "part", "after"
    if sort == "pulls":
        return [*WRONG_NUMBERS, 0], InvalidBound, "part", "pulls"
    return WRONG_NUMBERS, InvalidBound, "part", sort


class WrongArgumentsTest(unittest.TestCase):

    def assert_raises(self, call, arguments, value, kind, field, wanted):
        with self.assertRaises(kind) as caught:
            call(net(), *arguments)
        self.assertIs(type(caught.exception), kind)
        if wanted is None:
            self.assertIs(getattr(caught.exception, field), value)
        else:
            self.assertEqual(getattr(caught.exception, field), wanted)

    def test_each_place(self):
        for call, right, sorts in CALLS:
            call(net(), *right)
            for place, sort in enumerate(sorts):
                values, *error = wrong_values(sort)
                for value in values:
                    with self.subTest(call.__name__, sort=sort, value=repr(value)):
                        self.assert_raises(call, right[:place] + [value] + right[place + 1:], value, *error)

    def test_two_wrong_arguments(self):
        for call, right, sorts in CALLS:
            for place, sort in enumerate(sorts):
                values, *error = wrong_values(sort)
                # All arguments behind it are wrong, too.
                value = values[-1]
                self.assert_raises(call, right[:place] + [value] + [None] * (len(sorts) - place - 1), value, *error)

    def test_a_source_of_another_outlet(self):
        for call in (items_ahead, served, dearest):
            self.assertIsNotNone(call(net(), "z", "b", 3))
            self.assert_raises(call, ["y", "b", 3], "b", InvalidName, "name", "b")
            self.assert_raises(call, ["y", "b", -1], "b", InvalidName, "name", "b")
            self.assert_raises(call, ["s", "b", -1], "s", InvalidName, "name", "s")

    def test_bounds(self):
        for number in (0, 1, FAR):
            item_at(net(), "z", number)
            first_passing(net(), "z", FROM, number)
            count_passing(net(), "z", FROM, number)
            window(net(), "z", number, 0)
            greatest_item(net(), "z", number)
            needed(net(), "z", number)
            spent(net(), "z", number, number)
            spent(net(), "z", number, 10 ** 31 - 1)
            items_ahead(net(), "z", "a", number)
            served(net(), "z", "a", number)
        self.assertEqual(len(window(net(), "z", 0, 1000)), 1000)
        for number in (1, FAR):
            dearest(net(), "z", "a", number)

    def test_after_below_first(self):
        for first, after in ((1, 0), (FAR, FAR - 1), (5, -5)):
            self.assert_raises(spent, ["z", first, after], after, InvalidBound, "part", "after")
        self.assert_raises(spent, ["z", -1, -2], -1, InvalidBound, "part", "first")

    def test_arguments_by_name(self):
        self.assertEqual(item_at(index=1, outlet="y", net=net()), ("item", 2))
        self.assertEqual(item_count(outlet="y", net=net()), (None, ("endless",)))
        self.assertEqual(first_passing(start=1, test=FROM, outlet="y", net=net()), (1, 2))
        self.assertEqual(count_passing(many=2, test=FROM, outlet="y", net=net()), (2, 2))
        self.assertEqual(window(many=2, first=1, outlet="y", net=net()), [2, 4])
        self.assertEqual(greatest_item(many=2, outlet="y", net=net()), (2, 1))
        self.assertEqual(needed(items=2, outlet="y", net=net()), [("a", 3)])
        self.assertEqual(spent(after=2, first=1, outlet="y", net=net()), [("a", 2)])
        self.assertEqual(items_ahead(number=2, source="a", outlet="y", net=net()), 1)
        self.assertEqual(served(number=2, source="a", outlet="y", net=net()), 1)
        self.assertEqual(dearest(pulls=2, source="a", outlet="y", net=net()), (2, 1))

    def test_each_in_its_file(self):
        for at, (call, _, _) in enumerate(CALLS):
            self.assertEqual(call.__module__, "pullworks.items" if at < 6 else "pullworks.demands")

    def test_kinds_of_values(self):
        for call, right, _ in CALLS:
            value = call(net(), *right)
            self.assertIn(type(value), (tuple, list, int))
        self.assertIs(type(window(net(), "z", 0, 3)), list)
        for found in (needed(net(), "z", 3), spent(net(), "z", 0, 3)):
            self.assertIs(type(found), list)
            self.assertIs(type(found[0]), tuple)


class LimitTest(unittest.TestCase):

    def test_weight_times_modulus(self):
        for weighs, modulus, wanted in ((50, 100, True), (51, 100, False), (100, 50, True), (100, 51, False), (72, 69, True),
                                        (72, 70, False), (1, 100, True), (100, 1, True)):
            for many_nots in (0, 3):
                test = nots(many_nots, ("mod", modulus, [0]))
                for call in (first_passing, count_passing):
                    if wanted:
                        call(weighing(weighs), "z", test, 5)
                        continue
                    with self.assertRaises(LimitExceeded) as caught:
                        call(weighing(weighs), "z", test, 5)
                    self.assertEqual(caught.exception.limit, 5000)

    def test_tests_without_a_modulus(self):
        for test in (("below", 3), ("from", 3), nots(3, ("below", 3))):
            self.assertEqual(count_passing(weighing(100), "z", test, 5)[1], 5)

    def test_behind_all_other_errors(self):
        test = ("mod", 100, [])
        for call, part in ((first_passing, "start"), (count_passing, "many")):
            with self.assertRaises(InvalidName):
                call(weighing(100), "a", test, 5)
            with self.assertRaises(InvalidTest):
                call(weighing(100), "z", ("mod", 101, []), 5)
            with self.assertRaises(InvalidBound) as caught:
                call(weighing(100), "z", test, -1)
            self.assertEqual(caught.exception.part, part)
            with self.assertRaises(LimitExceeded):
                call(weighing(100), "z", test, 0)

    def test_the_whole_net_counts(self):
        two = Net([("a", "ring", ([1] * 10,), []), ("z", "scale", (1, 0), ["a"]), ("b", "ring", ([1] * 6,), [])])
        self.assertEqual(count_passing(two, "z", ("mod", 83, [1]), 5), (5, 5))
        with self.assertRaises(LimitExceeded):
            count_passing(two, "z", ("mod", 84, [1]), 5)


class UnchangedTest(unittest.TestCase):

    def test_nothing_is_changed(self):
        asked = net()
        test = ("not", ("mod", 4, [1, 2]))
        for _ in range(2):
            self.assertEqual(count_passing(asked, "y", test, 10), (5, 10))
            self.assertEqual(first_passing(asked, "y", test, 1), (2, 4))
            found = window(asked, "y", 0, 3)
            self.assertEqual(found, [0, 2, 4])
            found.append(5)
            reads = needed(asked, "z", 3)
            self.assertEqual(reads, [("a", 2), ("b", 1)])
            reads.clear()
            reads = spent(asked, "z", 0, 3)
            self.assertEqual(reads, [("a", 2), ("b", 1)])
            reads.clear()
            with self.assertRaises(InvalidBound):
                window(asked, "y", 0, 1001)
        self.assertEqual(test, ("not", ("mod", 4, [1, 2])))
        self.assertEqual(asked, net())
        self.assertEqual(asked.node_list(), net().node_list())

    def test_a_net_of_one_node(self):
        one = tower(("count", (5, 1)))[0]
        self.assertEqual((window(one, "a", 0, 2), needed(one, "a", 7)), ([5, 6], [("a", 7)]))


if __name__ == "__main__":
    unittest.main()
