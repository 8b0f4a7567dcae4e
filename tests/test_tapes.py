"""Tapes from within: what is asked of them, and that no input is pulled behind its end."""

import random
import unittest

from drawing import crossing_net, drawn_net
from makers import FAR

from pullworks.plans import plan_of
from pullworks.tapes import ONE, Reader, Tape, read


class TapesTest(unittest.TestCase):

    def tape(self):
        tape = Tape()
        tape.give(2, [(5, 9), (6, 9)], [read(3), ()])
        tape.error("net", read(2))
        tape.give(1, [(7, 0)], [ONE])
        tape.give(FAR, [(0, 1), (9, 2)], [ONE, read(4)])
        tape.end(ONE)
        tape.settle()
        return tape

    def test_results(self):
        tape = self.tape()
        found = [tape.result(pull) for pull in (0, 1, 2, 3, 4, 5, 6, 7, FAR + 3, FAR + 4, FAR + 5)]
        self.assertEqual([result[-1] for result in found], [5, 6, "net", 7, 0, 9, 1, 11, 9 + FAR - 2, "end", "end"])
        self.assertEqual([tape.items_in(pulls) for pulls in (0, 1, 2, 3, 4, 9, FAR + 4, 2 * FAR)],
                         [0, 1, 2, 2, 3, 8, FAR + 3, FAR + 3])
        self.assertEqual([tape.errors_in(pulls) for pulls in (0, 2, 3, 9, 2 * FAR)], [0, 0, 1, 1, 1])
        self.assertEqual([tape.pull_of_item(index) for index in (0, 1, 2, 3, FAR + 2, FAR + 3)], [0, 1, 3, 4, FAR + 3, None])
        self.assertEqual((tape.stop("end"), tape.stop("never")), (FAR + 4, None))

    def test_uses(self):
        tape = self.tape()
        wanted = [0, 3, 3, 5, 6, 7, 11, 12]
        self.assertEqual([tape.used(0, pulls) for pulls in range(8)], wanted)
        self.assertEqual([tape.used(1, pulls) for pulls in range(8)], [0] * 8)
        self.assertEqual([tape.pull_using(0, number) for number in range(12)], [0, 0, 0, 2, 2, 3, 4, 5, 5, 5, 5, 6])
        last = 6 + 5 * FAR // 2
        self.assertEqual([tape.used(0, FAR + 4), tape.used(0, FAR + 5), tape.used(0, 9 * FAR)], [last, last + 1, last + 1])
        self.assertEqual([tape.pull_using(0, number) for number in (last - 1, last, last + 1, 9 * FAR)],
                         [FAR + 3, FAR + 4, None, None])
        self.assertIs(tape.pull_using(1, 0), None)

    def test_a_reader_meets_every_stretch(self):
        reader = Reader(self.tape())
        found = []
        while reader.left() != 0:
            found.append((reader.here().what, reader.left()))
            reader.skip(reader.left())
        self.assertEqual(found, [("item", 2), ("error", 1), ("item", 1), ("item", FAR), ("end", 1)])


class UsesTest(unittest.TestCase):

    def check(self, net):
        """Return how many pulls without an answer there are among the nodes of a net."""
        plan = plan_of(net)
        nevers = 0
        for name, kind, _, inputs in net.node_list():
            tape = plan.tapes[name]
            last = tape.stretches[-1]
            for place, lower in enumerate(inputs):
                self.check_input(tape, last, place, plan.tapes[lower], (net.node_list(), name))
            if kind in ("count", "span", "ring", "row") and last.what == "end":
                self.assertEqual(tape.used(0, FAR), last.start + 1)
            nevers += last.what == "never"
        return nevers

    def check_input(self, tape, last, place, lower, told):
        end, never = lower.stop("end"), lower.stop("never")
        most = end if end is not None else never
        made = tape.used(place, last.start + 1) if last.what == "end" else last.used_before.get(place, 0)
        if last.what == "item" and place in last.sums and last.sums[place][-1] > 0:
            self.assertIsNone(most, told)
        if most is not None:
            self.assertLessEqual(made, most + (end is not None), told)
        if last.what == "never" and place == last.uses[0][-1][0]:
            # The last pull that is made is the one without an answer, or there is no end of pulls.
            many = last.uses[0][-1][1]
            if many is None:
                self.assertIsNone(most, told)
            else:
                self.assertEqual(made + many - 1, never, told)
        elif last.what == "never" and most is not None:
            self.assertLessEqual(made + dict(last.uses[0]).get(place, 0), most + (end is not None), told)

    def test_drawn_nets(self):
        nevers = 0
        for seed in range(1500):
            draw = random.Random(31000 + seed)
            nevers += self.check(drawn_net(draw, 12))
            nevers += self.check(crossing_net(draw))
        self.assertGreater(nevers, 200)


if __name__ == "__main__":
    unittest.main()
