"""The examples of the document, in the order of their stages."""

import unittest

from pullworks.conditions import passes
from pullworks.errors import InvalidNet
from pullworks.nets import Net, cells, load, loops, outlets, sources_of, weight

NODES = [("a", "count", (0, 1), []), ("b", "keep", (("mod", 3, [0]),), ["a"]), ("c", "take", (2,), ["b"])]


class StageOneTest(unittest.TestCase):

    def test_e01(self):
        self.assertEqual([passes(('not', ('below', 3)), 3), passes(('mod', 4, [1, 3]), -1)], [True, True])

    def test_e02(self):
        net = Net(NODES)
        found = [outlets(net), sources_of(net, 'c'), cells(net), weight(net), loops(net), net['c']]
        self.assertEqual(found, [['c'], ['a'], 3, 3, 1, ('c', 'take', (2,), ['b'])])

    def test_e03(self):
        with self.assertRaises(InvalidNet) as caught:
            Net([('a', 'row', ([1],), []), ('b', 'zip', ('sum',), ['a', 'a'])])
        self.assertEqual(caught.exception.at, 1)

    def test_point_5(self):
        self.assertIs(passes(("not", ("below", 3)), 3), True)

    def test_point_8(self):
        self.assertEqual(outlets(Net(NODES)), ["c"])

    def test_point_9(self):
        net = Net(NODES)
        self.assertEqual([weight(net), loops(net), cells(net), load(net, 1)], [3, 1, 3, 81])


if __name__ == "__main__":
    unittest.main()
