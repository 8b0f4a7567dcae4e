"""Points [3] and [35]: linear programs, short vectors, and points of integers, against a look at each point."""

import itertools
import random
import unittest
from fractions import Fraction
from unittest import mock

from pullworks.grids import any_point, ceiling, first_point, greatest_least, least_at, level_at, settled
from pullworks.lattices import determinant, dot, normal, shortened, units
from pullworks.programs import height, least_point, sides


def drawn_body(draw, sizes, many):
    """Return a box with at most so many points in each direction, and some rows, at most so many."""
    box = [(low, low + draw.randint(0, size)) for size in sizes for low in [draw.randint(-3, 3)]]
    great = draw.choice((3, 10, 50, 1000))
    rows = []
    for _ in range(draw.randint(1, many)):
        form = [draw.randint(-great, great) for _ in box]
        rows.append([draw.randint(-great, great) - dot(form, [draw.randint(*ends) for ends in box]), *form])
    if draw.random() < 0.3:
        # A thin body, or one without any thickness.
        rows.append([draw.choice((0, great // 4)) - rows[0][0], *[-factor for factor in rows[0][1:]]])
    return box, rows


def points_in(box, rows):
    """Return all points of integers within a box and all rows, in their order."""
    points = itertools.product(*[range(low, high + 1) for low, high in box])
    return [list(point) for point in points if least_at(point, rows) >= 0]


def whole_turn(draw, size, great):
    """Return a matrix of whole steps with whole steps back, and these: two lists of rows."""
    steps, backs = units(size), units(size)
    for _ in range(draw.randint(1, 8)):
        one, other = draw.sample(range(size), 2)
        times = draw.randint(-great, great)
        for row in steps:
            row[one] += times * row[other]
        backs[other] = [low - times * high for low, high in zip(backs[other], backs[one])]
    return steps, backs


SIZES = ([60], [25, 25], [25, 25], [9, 9, 9], [9, 9, 9], [5, 5, 5, 5])


class ProgramTest(unittest.TestCase):

    def test_by_hand(self):
        square = [(0, 10), (0, 10)]
        self.assertEqual(least_point([1, 1], square, []), (1, [0, 0]))
        # x + 2 * y is at least 7, and 3 * x + y at least 6: the corner is (1, 3).
        rows = [[-7, 1, 2], [-6, 3, 1]]
        self.assertEqual(least_point([1, 1], square, rows), (1, [1, 3]))
        self.assertEqual(least_point([1, 0], square, rows), (1, [0, 6]))
        self.assertEqual(least_point([0, 1], square, rows), (1, [7, 0]))
        self.assertEqual(least_point([-1, -1], square, [[5, -2, 0], [10, 0, -3]]), (6, [15, 20]))
        self.assertIs(least_point([1, 1], square, [[-21, 1, 1]]), None)
        self.assertIs(least_point([1, 1], square, [[-1, 0, 0]]), None)
        self.assertEqual(least_point([], [], [[0]]), (1, []))

    def test_no_corner_is_better(self):
        for seed in range(400):
            draw = random.Random(seed)
            box, rows = drawn_body(draw, draw.choice(SIZES), 6)
            form = [draw.randint(-9, 9) for _ in box]
            found = least_point(form, box, rows)
            corners = []
            walls = rows + sides(box)
            for chosen in itertools.combinations(walls, len(box)):
                whole = determinant([row[1:] for row in chosen])
                if whole == 0:
                    continue
                # Cramer's rule.
                parts = [determinant([row[1:at + 1] + [-row[0]] + row[at + 2:] for row in chosen]) for at in range(len(box))]
                corner = abs(whole), [part if whole > 0 else -part for part in parts]
                if all(height(row, corner) >= 0 for row in walls):
                    corners.append(corner)
            self.assertEqual(found is None, not corners, (seed, box, rows))
            if corners:
                self.assertTrue(all(height(row, found) >= 0 for row in walls), (seed, found))
                for corner in corners:
                    self.assertLessEqual(dot(form, found[1]) * corner[0], dot(form, corner[1]) * found[0], (seed, box, rows))


class LatticeTest(unittest.TestCase):

    def test_normal_vectors(self):
        for seed in range(200):
            draw = random.Random(seed)
            size = draw.randint(1, 4)
            vectors = [[draw.randint(-9, 9) for _ in range(size)] for _ in range(draw.randint(0, size - 1))]
            if size > 1 and vectors and not any(normal(vectors, size)):
                continue
            found = normal(vectors, size)
            self.assertTrue(any(found), (seed, vectors))
            self.assertEqual([dot(found, row) for row in vectors], [0] * len(vectors))

    def test_short_vectors(self):
        for seed in range(150):
            draw = random.Random(seed)
            size = draw.randint(2, 4)
            short = [[draw.randint(-3, 3) + (9 if at == place else 0) for at in range(size)] for place in range(size)]
            turn, _ = whole_turn(draw, size, 10 ** draw.choice((1, 5, 20)))
            long = [[dot(row, column) for column in zip(*short)] for row in turn]
            steps, backs = shortened(long)
            found = [[dot(row, column) for column in zip(*long)] for row in steps]
            self.assertEqual([[dot(row, column) for column in zip(*found)] for row in zip(*backs)], long, seed)
            self.assertEqual(abs(determinant(steps)), 1)
            self.assertLess(dot(found[0], found[0]), 8 * min(dot(row, row) for row in short), (seed, found))


class GridTest(unittest.TestCase):

    def check(self, box, rows, points, where):
        """Compare what is found with all points there are."""
        found = any_point(box, rows)
        self.assertTrue(found in points if points else found is None, (where, found))
        self.assertEqual(first_point(box, rows), points[0] if points else None, where)

    def test_points(self):
        for most in (4, 1, 0):
            with mock.patch("pullworks.grids.MOST_SLICES", most):
                for seed in range(500):
                    draw = random.Random(seed)
                    box, rows = drawn_body(draw, draw.choice(SIZES), 6)
                    self.check(box, rows, points_in(box, rows), (seed, box, rows))

    def test_long_and_thin_bodies(self):
        for seed in range(120):
            draw = random.Random(seed)
            box, rows = drawn_body(draw, draw.choice(([14, 14], [6, 6, 6], [4, 4, 4, 4])), 4)
            steps, backs = whole_turn(draw, len(box), 10 ** draw.choice((1, 3, 10, 20)))
            points = sorted([dot(back, point) for back in backs] for point in points_in(box, rows))
            far = 100 * max(abs(factor) for back in backs for factor in back)
            turned = [[row[0], *[dot(row[1:], column) for column in zip(*steps)]] for row in rows + sides(box)]
            self.check([(-far - draw.randint(0, 9), far) for _ in box], turned, points, (seed, box, rows, steps))

    def test_a_wedge_without_points_for_long(self):
        # The first fraction between two neighbours among those of Fibonacci's numbers is the next one of these.
        one, other = 1, 1
        for _ in range(150):
            one, other = other, one + other
            (low, under), (high, over) = sorted(((other, one), (one + other, other)), key=lambda pair: Fraction(*pair))
            rows = [[-1, -low, under], [-1, high, -over]]
            box = [(1, 10 ** 40), (1, 10 ** 40)]
            self.assertEqual(first_point(box, rows), [under + over, low + high])
            self.assertIs(any_point([(1, under + over - 1), box[1]], rows), None)

    def test_the_middle_comes_first(self):
        for low in (-3, 0, 5):
            for many in range(1, 8):
                levels = [level_at((low, low + many - 1), away) for away in range(many)]
                self.assertEqual(sorted(levels), list(range(low, low + many)))
                self.assertEqual([abs(2 * level - 2 * low - many + 1) // 2 for level in levels],
                                 sorted(abs(2 * level - 2 * low - many + 1) // 2 for level in levels))

    def test_no_variables(self):
        self.assertEqual([any_point([], []), first_point([], []), any_point([], [[0]]), first_point([], [[3], [0]])], [[]] * 4)
        self.assertEqual([any_point([], [[-1]]), first_point([], [[3], [-1]])], [None] * 2)

    def test_the_greatest_least(self):
        for seed in range(600):
            draw = random.Random(seed)
            box, rows = drawn_body(draw, draw.choice(SIZES), 6)
            points = itertools.product(*[range(low, high + 1) for low, high in box])
            greatest = max(least_at(point, rows) for point in points)
            for best in (greatest - 10 ** 9, greatest - 2, greatest - 1, greatest, greatest + 5):
                for body in ((box, rows), settled(box, rows)):
                    top, seen = ceiling(*body, best)
                    self.assertEqual(greatest_least(*body, seen, top), max(greatest, best), (seed, box, rows, best))
                    self.assertTrue(best <= seen <= max(best, greatest) <= top, (seed, box, rows, best))


if __name__ == "__main__":
    unittest.main()
