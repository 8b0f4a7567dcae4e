"""Steady items: each function of lines.py against the items themselves, one by one."""

import random
import unittest

from drawing import test_of as drawn_test
from makers import FAR
from plain import passes

from pullworks.lines import (differences, first_passing_at, greatest_among, parts, passing_among, residue_lines, seen_from,
                             side_by_side, sign_turn, spread, tested_parts, value_at, zero_turns)


def drawn_lines(draw):
    return [(draw.randint(-30, 30), draw.randint(-4, 4)) for _ in range(draw.randint(1, 5))]


def listed(lines, many):
    return [lines[at % len(lines)][0] + at // len(lines) * lines[at % len(lines)][1] for at in range(many)]


class LinesTest(unittest.TestCase):

    def drawn(self):
        """Yield a source of numbers, lines, how many items they stand for, and these items."""
        for seed in range(400):
            draw = random.Random(seed)
            lines = drawn_lines(draw)
            many = draw.randint(len(lines), 70)
            yield draw, lines, many, listed(lines, many)

    def test_items(self):
        for draw, lines, many, items in self.drawn():
            self.assertEqual([value_at(lines, at) for at in range(many)], items)
            at = draw.randint(0, many - 1)
            self.assertEqual(listed(seen_from(lines, at, many - at), many - at), items[at:])
            self.assertEqual(len(seen_from(lines, at, many - at)), min(len(lines), many - at))
            self.assertEqual(listed(spread(lines, 3 * len(lines)), many), items)
            self.assertEqual(listed(spread(lines, many), many), items)
            if many > 1:
                steps = [behind - before for before, behind in zip(items, items[1:])]
                self.assertEqual(listed(differences(lines, many - 1), many - 1), steps)

    def test_side_by_side(self):
        for draw, lines, many, items in self.drawn():
            other = drawn_lines(draw)
            for number in (many, None):
                found = side_by_side([lines[:many], other], number)
                self.assertEqual(len(found[0]), len(found[1]))
                self.assertEqual([listed(row, many) for row in found], [items, listed(other, many)])

    def test_turns(self):
        for value in range(-12, 13):
            for growth in range(-4, 5):
                signs = [value + growth * at < 0 for at in range(30)]
                self.assertEqual(sign_turn(value, growth), next((at for at in range(30) if signs[at] != signs[0]), None))
                zeros = [at for at in range(30) if value + growth * at == 0] if growth else []
                self.assertEqual([turn for turn in zero_turns(value, growth)[:1] if turn >= 0], zeros)

    def test_parts(self):
        for draw, lines, many, items in self.drawn():
            cut = parts(many, lines, [draw.randint(-3, 20) for _ in range(draw.randint(0, 4))])
            self.assertEqual(sum(number for number, _ in cut), many)
            self.assertEqual([item for number, part in cut for item in listed(part, number)], items)
            endless = parts(None, lines, [2, 5])
            self.assertEqual([number for number, _ in endless], [2 * len(lines), 3 * len(lines), None])

    def test_tests(self):
        for draw, lines, many, items in self.drawn():
            test = drawn_test(draw)
            hits = [passes(test, item) for item in items]
            flags = [flags[at % len(flags)] for number, _, flags in tested_parts(many, lines, test) for at in range(number)]
            self.assertEqual(flags, hits)
            self.assertEqual(first_passing_at(many, lines, test), hits.index(True) if True in hits else None)
            self.assertEqual(passing_among(many, lines, test), sum(hits))
            self.assertEqual(greatest_among(many, lines), (max(items), items.index(max(items))))
            residues = residue_lines(many, lines, 6)
            self.assertEqual([residues[at % len(residues)][0] % 6 for at in range(many)], [item % 6 for item in items])

    def test_far_items(self):
        lines = [(3, 5), (-FAR, 1)]
        self.assertEqual([value_at(lines, 2 * FAR), value_at(lines, 2 * FAR + 1)], [3 + 5 * FAR, 0])
        self.assertEqual(first_passing_at(None, lines, ("from", 10 * FAR)), 2 * ((10 * FAR - 3 + 4) // 5))
        self.assertEqual(first_passing_at(None, [(-FAR, 1)], ("from", 0)), FAR)
        self.assertIs(first_passing_at(None, [(-FAR, -1)], ("from", 0)), None)


if __name__ == "__main__":
    unittest.main()
