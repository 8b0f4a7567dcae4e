"""Point [5]: tests, and the items that pass them."""

import copy
import unittest

from makers import FAR, Claimer, nots, strange_values

from pullworks.conditions import modulus_of, passes
from pullworks.errors import InvalidBound, InvalidTest, PullError

WRONG_TESTS = [
    5, -5, 10 ** 40, "below", "mod", ("below",), ("from",), ("not",), ("mod",), ("mod", 3), ("below", 1, 2),
    ("from", 1, 2), ("mod", 3, [0], 1), ("not", ("below", 1), 2), ["below", 1], ["mod", 3, [0]], ["not", ("below", 1)],
    ("not", ["below", 1]), ("not", "below"), ("not", 3), ("not", None), ("Below", 1), ("under", 1), ("below ", 1),
    (b"below", 1), (["below"], 1), ({}, 1), (Claimer(), 1), (Claimer(), 3, [0]), (Claimer(), ("below", 1)),
    ("below", True), ("from", False), ("below", None), ("below", "1"), ("below", [1]), ("below", (1,)),
    ("below", Claimer()), ("below", FAR + 1), ("below", -FAR - 1), ("from", FAR + 1), ("from", -FAR - 1),
    ("mod", 0, []), ("mod", -1, []), ("mod", 101, []), ("mod", True, []), ("mod", False, []), ("mod", True, [0]),
    ("mod", None, []), ("mod", "3", []), ("mod", [3], []), ("mod", 3, None), ("mod", 3, 0), ("mod", 3, (0,)),
    ("mod", 3, {0: 1}), ("mod", 3, "0"), ("mod", 3, [3]), ("mod", 3, [-1]), ("mod", 3, [0, 3]), ("mod", 3, [1, 0]),
    ("mod", 3, [1, 1]), ("mod", 3, [0, 2, 1]), ("mod", 3, [False]), ("mod", 3, [True]), ("mod", 3, [0, True]),
    ("mod", 3, [None]), ("mod", 3, ["0"]), ("mod", 3, [[0]]), ("mod", 3, [Claimer()]), ("mod", 1, [1]),
    ("mod", 100, [100]), ("mod", [0], 3), (3, "mod", [0]), (1, "below"), (("below", 1), "not"),
]

WRONG_ITEMS = [None, True, False, "0", b"0", [0], (0,), {}, {0: 0}, {0}, object(), Claimer(), int, ("below", 1)]


class PassesTest(unittest.TestCase):

    def assert_raises_test(self, test, item):
        with self.assertRaises(InvalidTest) as caught:
            passes(test, item)
        self.assertIs(caught.exception.test, test)

    def test_below(self):
        for v in (-FAR, -7, 0, 3, FAR):
            for item, wanted in ((v - 1, True), (v, False), (v + 1, False), (v - 10 ** 40, True), (v + 10 ** 40, False)):
                with self.subTest(v=v, item=item):
                    self.assertIs(passes(("below", v), item), wanted)

    def test_from(self):
        for v in (-FAR, -7, 0, 3, FAR):
            for item, wanted in ((v - 1, False), (v, True), (v + 1, True), (v - 10 ** 40, False), (v + 10 ** 40, True)):
                with self.subTest(v=v, item=item):
                    self.assertIs(passes(("from", v), item), wanted)

    def test_mod(self):
        found = [item for item in range(-8, 9) if passes(("mod", 4, [1, 3]), item)]
        self.assertEqual(found, [-7, -5, -3, -1, 1, 3, 5, 7])
        found = [item for item in range(-8, 9) if passes(("mod", 5, [0, 4]), item)]
        self.assertEqual(found, [-6, -5, -1, 0, 4, 5])

    def test_mod_far(self):
        # 10 is 1 modulo 3, and 10 ** 6 is 1 modulo 7: so 10 ** 30 is 1 modulo both.
        self.assertIs(passes(("mod", 3, [1]), 10 ** 30), True)
        self.assertIs(passes(("mod", 3, [2]), -10 ** 30), True)
        self.assertIs(passes(("mod", 3, [1]), -10 ** 30), False)
        self.assertIs(passes(("mod", 7, [1]), 10 ** 30), True)
        self.assertIs(passes(("mod", 7, [6]), -10 ** 30), True)
        self.assertIs(passes(("mod", 100, [99]), 10 ** 45 - 1), True)
        self.assertIs(passes(("mod", 100, [1]), 1 - 10 ** 45), True)

    def test_mod_ends(self):
        for item in (-2, -1, 0, 1, 2, FAR):
            self.assertIs(passes(("mod", 1, [0]), item), True)
            self.assertIs(passes(("mod", 1, []), item), False)
            self.assertIs(passes(("mod", 100, list(range(100))), item), True)
            self.assertIs(passes(("mod", 100, []), item), False)
        self.assertIs(passes(("mod", 100, [0, 99]), -1), True)
        self.assertIs(passes(("mod", 100, [0, 99]), 98), False)

    def test_up_to_three_nots(self):
        for test in (("below", 3), ("from", 3), ("mod", 3, [0, 1])):
            for item in (-4, 2, 3, 4, 10 ** 31):
                plain = passes(test, item)
                self.assertIs(passes(nots(1, test), item), not plain)
                self.assertIs(passes(nots(2, test), item), plain)
                self.assertIs(passes(nots(3, test), item), not plain)

    def test_four_nots(self):
        for test in (("below", 3), ("from", 3), ("mod", 3, [0, 1])):
            self.assert_raises_test(nots(4, test), 3)
            self.assert_raises_test(nots(5, test), 3)
            self.assert_raises_test(nots(100000, test), 3)

    def test_wrong_tests(self):
        for test in [*strange_values(), *WRONG_TESTS]:
            with self.subTest(repr(test)):
                self.assert_raises_test(test, 0)

    def test_wrong_tests_behind_nots(self):
        for test in WRONG_TESTS:
            for many in (1, 2, 3):
                with self.subTest(repr(test), many=many):
                    self.assert_raises_test(nots(many, test), 0)

    def test_a_list_that_contains_itself(self):
        ring = []
        ring.append(("not", ring))
        self.assert_raises_test(ring, 0)
        self.assert_raises_test(ring[0], 0)
        self.assert_raises_test(("mod", 3, ring), 0)

    def test_wrong_items(self):
        for item in [*strange_values(), *WRONG_ITEMS]:
            for test in (("below", 3), ("mod", 3, [0]), nots(3, ("from", 3))):
                with self.subTest(repr(item), test=test):
                    with self.assertRaises(InvalidBound) as caught:
                        passes(test, item)
                    self.assertEqual(caught.exception.part, "item")

    def test_both_wrong(self):
        for test in [*strange_values(), *WRONG_TESTS]:
            for item in WRONG_ITEMS:
                self.assert_raises_test(test, item)

    def test_by_name(self):
        self.assertIs(passes(test=("below", 3), item=2), True)
        self.assertIs(passes(item=3, test=("below", 3)), False)

    def test_nothing_is_changed(self):
        for test in (("mod", 4, [1, 3]), nots(3, ("mod", 4, [])), nots(2, ("below", 5))):
            before = copy.deepcopy(test)
            passes(test, 5)
            with self.assertRaises(PullError):
                passes(test, None)
            self.assertEqual(test, before)

    def test_examples(self):
        self.assertIs(passes(("not", ("below", 3)), 3), True)
        self.assertEqual([passes(('not', ('below', 3)), 3), passes(('mod', 4, [1, 3]), -1)], [True, True])


class ModulusTest(unittest.TestCase):

    def test_modulus(self):
        for many in range(4):
            self.assertEqual(modulus_of(nots(many, ("mod", 12, [0]))), 12)
            self.assertEqual(modulus_of(nots(many, ("below", 12))), 1)
            self.assertEqual(modulus_of(nots(many, ("from", 12))), 1)


if __name__ == "__main__":
    unittest.main()
