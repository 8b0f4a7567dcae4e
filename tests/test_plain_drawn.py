"""Points [10] to [18]: drawn nets, pulled, closed and copied in drawn orders, held against the plain machine."""

import random
import unittest

from both import Both
from drawing import crossing_net, drawn_net


class DrawnTest(unittest.TestCase):

    def drawn_calls(self, draw, both, many):
        """Make calls in a drawn order until so many are made or the machine is stuck."""
        for _ in range(many):
            outlet = draw.choice(both.outlets)
            pick = draw.random()
            if pick < 0.04:
                both.close(outlet)
            elif pick < 0.08:
                both.copy()
            elif pick < 0.3:
                both.pull_times(outlet, draw.randint(0, 6))
            else:
                both.pull(outlet)
            both.compare()
            if both.is_stuck():
                return

    def test_nets_of_up_to_seven_nodes(self):
        stuck = 0
        for seed in range(1500):
            draw = random.Random(seed)
            both = Both(self, drawn_net(draw, 7))
            self.drawn_calls(draw, both, 40)
            stuck += both.is_stuck()
        self.assertGreater(stuck, 20)

    def test_greater_nets(self):
        for seed in range(400):
            draw = random.Random(-1 - seed)
            self.drawn_calls(draw, Both(self, drawn_net(draw, 16)), 50)

    def test_long_runs(self):
        for seed in range(150):
            draw = random.Random(7000 + seed)
            both = Both(self, drawn_net(draw, 8), 4000)
            for _ in range(12):
                both.pull_times(draw.choice(both.outlets), draw.randint(1, 90))
                both.compare()
                if both.is_stuck():
                    break

    def test_items_that_overtake_others(self):
        for seed in range(700):
            draw = random.Random(11000 + seed)
            both = Both(self, crossing_net(draw), 4000)
            while len(both.calls) < 20 and not both.is_stuck():
                both.pull_times(both.outlets[0], draw.choice((1, 3, 10, 30)))
                both.compare()

    def test_a_copy_goes_on_apart(self):
        for seed in range(300):
            draw = random.Random(3000 + seed)
            one = Both(self, drawn_net(draw, 7))
            self.drawn_calls(draw, one, draw.randint(0, 15))
            other = one.twin()
            for both in (one, other, one):
                if not both.is_stuck():
                    self.drawn_calls(draw, both, 15)
            one.compare()
            other.compare()


if __name__ == "__main__":
    unittest.main()
