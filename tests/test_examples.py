"""The examples of the document, in the order of their stages."""

import unittest

from pullworks.conditions import passes
from pullworks.demands import dearest, items_ahead, needed, served, spent
from pullworks.errors import InvalidBound, InvalidName, InvalidNet
from pullworks.items import count_passing, first_passing, greatest_item, item_at, item_count, window
from pullworks.machines import Machine
from pullworks.nets import Net, cells, load, loops, outlets, sources_of, weight
from pullworks.schedules import done_steps, first_round, run, tallies

NODES = [("a", "count", (0, 1), []), ("b", "keep", (("mod", 3, [0]),), ["a"]), ("c", "take", (2,), ["b"])]


class StageOneTest(unittest.TestCase):

    def test_e01(self):
        self.assertEqual([passes(('not', ('below', 3)), 3), passes(('mod', 4, [1, 3]), -1)], [True, True])

    def test_e02(self):
        net = Net(NODES)
        found = [outlets(net), sources_of(net, 'c'), cells(net), weight(net), loops(net), net['c']]
        self.assertEqual(found, [['c'], ['a'], 3, 3, 1, ('c', 'take', (2,), ['b'])])

    def test_e03(self):
        with self.assertRaises(InvalidNet) as caught:
            Net([('a', 'row', ([1],), []), ('b', 'zip', ('sum',), ['a', 'a'])])
        self.assertEqual(caught.exception.at, 1)

    def test_point_5(self):
        self.assertIs(passes(("not", ("below", 3)), 3), True)

    def test_point_8(self):
        self.assertEqual(outlets(Net(NODES)), ["c"])

    def test_point_9(self):
        net = Net(NODES)
        self.assertEqual([weight(net), loops(net), cells(net), load(net, 1)], [3, 1, 3, 81])


class StageTwoTest(unittest.TestCase):

    def test_e04(self):
        m = Machine(Net(NODES))
        found = [m.pull('c'), m.pull('c'), m.pull('c'), m.reads('a'), m.ended('c')]
        self.assertEqual(found, [('item', 0), ('item', 3), ('end',), 4, True])

    def test_e05(self):
        far = Net([('a', 'count', (5, 2), [])])
        self.assertEqual(Machine(far).pull_times('a', 10 ** 30), (10 ** 30, 0, ('item', 2000000000000000000000000000003)))

    def test_e06(self):
        m = Machine(Net([('a', 'count', (5, 1), []), ('f', 'fault', (1, 'net'), ['a']),
                         ('b', 'batch', (3, 'sum', 'give'), ['f'])]))
        self.assertEqual([m.pull('b'), m.pull('b')], [('error', 'net'), ('item', 18)])

    def test_e07(self):
        m = Machine(Net([('a', 'count', (0, 1), []), ('b', 'keep', (('below', 1),), ['a'])]))
        self.assertEqual([m.pull('b'), m.pull('b'), m.stuck()], [('item', 0), ('never', 'b'), 'b'])

    def test_e08(self):
        m = Machine(Net([('a', 'row', ([1, 2],), []), ('s', 'split', (), ['a']), ('l', 'closing', ('bye',), ['s']),
                         ('r', 'scale', (10, 0), ['s'])]))
        found = [m.pull('l'), m.pull('l'), m.buffer('s'), m.pull('r'), m.pull('l'), m.notes(), m.reads('a')]
        self.assertEqual(found, [('item', 1), ('item', 2), 2, ('item', 10), ('end',), ['bye'], 3])

    def test_point_18(self):
        m = Machine(Net(NODES))
        m.pull_times('c', 3)
        self.assertEqual([m.reads('a'), m.pull('c'), m.reads('a')], [4, ('end',), 4])


class StageThreeTest(unittest.TestCase):

    def test_e09(self):
        two = Net([('a', 'count', (0, 1), []), ('s', 'split', (), ['a']), ('l', 'scale', (1, 0), ['s']),
                   ('r', 'keep', (('mod', 2, [0]),), ['s'])])
        steps = [('repeat', 10, [('pull', 'l', 3), ('pull', 'r', 2)])]
        self.assertEqual([tallies(two, steps), run(two, steps).reads('a')], [[('l', 30, 0, 0), ('r', 20, 0, 0)], 39])

    def test_e10(self):
        blind = Net([('a', 'count', (0, 1), []), ('b', 'keep', (('below', 5),), ['a'])])
        self.assertEqual(done_steps(blind, [('repeat', 9, [('pull', 'b', 2)])]), ((0, 2, 0), 1, 'b'))

    def test_e11(self):
        self.assertEqual(first_round(Net(NODES), [('pull', 'c', 1)], 'c', 'end'), 2)


class StageFourTest(unittest.TestCase):

    def setUp(self):
        self.net = Net(NODES)
        self.odd = Net([("a", "ring", ([3, 1, 2],), []), ("b", "count", (0, 5), []), ("c", "zip", ("sum",), ["a", "b"])])

    def test_e201_to_e203(self):
        self.assertEqual([item_at(self.net, "c", 1), item_at(self.net, "c", 2)], [('item', 3), ('end',)])
        self.assertEqual(item_at(self.odd, "c", 10 ** 30), ('item', 5000000000000000000000000000001))

    def test_e204(self):
        with self.assertRaises(InvalidName) as caught:
            item_at(self.net, "a", 0)
        self.assertEqual(caught.exception.name, 'a')

    def test_e205_and_e206(self):
        self.assertEqual([item_count(self.net, "c"), item_count(self.odd, "c")], [(2, ('end',)), (None, ('endless',))])

    def test_e207(self):
        found = first_passing(self.odd, "c", ("from", 10 ** 20), 0)
        self.assertEqual(found, (20000000000000000000, 100000000000000000002))

    def test_e208(self):
        with self.assertRaises(InvalidBound) as caught:
            first_passing(self.odd, "c", ("from", 0), -1)
        self.assertEqual(caught.exception.part, 'start')

    def test_e209_and_e210(self):
        self.assertEqual(count_passing(self.odd, "c", ("mod", 2, [0]), 6), (3, 6))
        self.assertEqual(count_passing(self.net, "c", ("from", 0), 9), (2, 2))

    def test_e211_and_e212(self):
        self.assertEqual([window(self.odd, "c", 3, 2), window(self.net, "c", 1, 5)], [[18, 21], [3]])

    def test_e213_and_e214(self):
        self.assertEqual([greatest_item(self.odd, "c", 4), greatest_item(self.net, "c", 0)], [(18, 3), None])

    def test_the_items_of_odd(self):
        self.assertEqual(window(self.odd, "c", 0, 7), [3, 6, 12, 18, 21, 27, 33])


class StageFiveTest(unittest.TestCase):

    def setUp(self):
        self.net = Net(NODES)

    def test_e301(self):
        net = self.net
        found = [needed(net, "c", 2), needed(net, "c", 3), spent(net, "c", 1, 2), spent(net, "c", 2, 10)]
        self.assertEqual(found, [[('a', 4)], None, [('a', 3)], [('a', 0)]])

    def test_e302(self):
        wide = Net([("a", "count", (0, 1), []), ("b", "step", (10**6,), ["a"])])
        self.assertEqual(needed(wide, "b", 10**20), [('a', 99999999999999999999000001)])

    def test_e303(self):
        net = self.net
        found = [items_ahead(net, "c", "a", 2), items_ahead(net, "c", "a", 4), served(net, "c", "a", 2),
                 dearest(net, "c", "a", 5)]
        self.assertEqual(found, [1, None, 1, (3, 1)])

    def test_e304(self):
        with self.assertRaises(InvalidName) as caught:
            served(self.net, "c", "b", 2)
        self.assertEqual(caught.exception.name, 'b')


if __name__ == "__main__":
    unittest.main()
