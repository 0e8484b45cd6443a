"""Promises 14 and 15: least figures that contain two others, and sums and products in any order."""

import random
import unittest

from tests.plain import KINDS, joined, many_figures, same
from tiespan.figures import Figure

ZERO, ONE = (0, 1), (1, 1)
NONE = (-1, 1)
POOL = many_figures(21, 1200, 5)


def figure(kind):
    return Figure(KINDS[kind])


class SumTest(unittest.TestCase):
    def check(self, one, other, rows):
        self.assertEqual((one + other).rows(), rows)
        self.assertEqual((other + one).rows(), rows)

    def test_examples(self):
        strip = Figure([(0, 1, ZERO), (0, -1, ONE)])
        self.check(strip, Figure.point(ZERO, ONE), [(0, 1, ONE), (0, -1, ONE)])
        line = Figure([(0, 1, ZERO), (0, -1, ZERO)])
        self.check(line, Figure.point(ZERO, ONE), [(0, 1, ONE), (0, -1, ZERO)])
        self.check(line, figure("half plane"), [])
        self.check(line, Figure.point((7, 3), ZERO), line.rows())
        self.check(line, Figure([(0, 1, (5, 1))]), [(0, 1, (5, 1))])
        self.check(Figure([(0, 1, ONE)]), Figure.point(ZERO, (3, 1)), [(0, 1, (3, 1))])

    def test_points(self):
        one, other = Figure.point(ZERO, ZERO), Figure.point((2, 1), ONE)
        self.check(one, other, [(1, 0, (2, 1)), (-1, 2, ZERO), (-1, 0, ZERO), (1, -2, ZERO)])
        self.check(one, one, one.rows())
        self.check(one, Figure.point(ZERO, ONE), [(1, 0, ZERO), (0, 1, ONE), (-1, 0, ZERO), (0, -1, ZERO)])
        third = Figure.point(ZERO, (2, 1))
        self.check(one + other, third, [(1, 2, (4, 1)), (-1, 0, ZERO), (1, -2, ZERO)])

    def test_rays(self):
        right = Figure([(0, 1, ZERO), (0, -1, ZERO), (-1, 0, ZERO)])
        up = Figure([(1, 0, ZERO), (-1, 0, ZERO), (0, -1, ZERO)])
        left = Figure([(0, 1, ONE), (0, -1, NONE), (1, 0, ZERO)])
        self.check(right, up, [(-1, 0, ZERO), (0, -1, ZERO)])
        self.check(right, left, [(0, 1, ONE), (0, -1, ZERO)])
        self.check(right + left, up, [(0, -1, ZERO)])
        self.check(right, Figure.point(NONE, ZERO), [(0, 1, ZERO), (-1, 0, ONE), (0, -1, ZERO)])
        self.check(right, Figure.point(ZERO, ONE), [(0, 1, ONE), (-1, 0, ZERO), (0, -1, ZERO)])
        down = Figure([(1, 0, ZERO), (-1, 0, ZERO), (0, 1, ZERO)])
        self.check(right + up + left, down, [])
        self.check(down, up, [(1, 0, ZERO), (-1, 0, ZERO)])

    def test_plane_and_nothing(self):
        plane, nothing = Figure(), Figure.nothing()
        for rows in list(KINDS.values()) + POOL:
            one = Figure(rows)
            for told in (one + nothing, nothing + one, one * plane, plane * one, one + one, one * one):
                self.assertEqual(told, one)
            for told in (one + plane, plane + one):
                self.assertEqual(told, plane)
            for told in (one * nothing, nothing * one):
                self.assertEqual(told, nothing)

    def test_kinds_against_the_plain_way(self):
        for kind, rows in KINDS.items():
            for other, more in KINDS.items():
                with self.subTest(kind=kind, other=other):
                    self.assertTrue(same(figure(kind) + figure(other), joined(rows, more)))

    def test_many_against_the_plain_way(self):
        for one, other in zip(POOL, POOL[1:]):
            self.assertTrue(same(Figure(one) + Figure(other), joined(one, other)), (one, other))

    def test_least(self):
        pool = [Figure(rows) for rows in list(KINDS.values()) + POOL[:60]]
        dice = random.Random(22)
        for turn in range(300):
            one, other = dice.choice(pool), dice.choice(pool)
            both = one + other
            self.assertTrue(one <= both and other <= both)
            for third in pool:
                if one <= third and other <= third:
                    self.assertTrue(both <= third)


class OrdersTest(unittest.TestCase):
    def test_any_order_and_grouping(self):
        pool = [Figure(rows) for rows in list(KINDS.values()) + POOL[:120]]
        dice = random.Random(23)
        for turn in range(400):
            one, other, third = (dice.choice(pool) for each in range(3))
            self.assertEqual(one + other, other + one)
            self.assertEqual(one * other, other * one)
            self.assertEqual((one + other) + third, one + (other + third))
            self.assertEqual((one * other) * third, one * (other * third))
            self.assertEqual((one + other + third).rows(), (third + one + other).rows())
            self.assertEqual((one * other * third).rows(), (third * one * other).rows())

    def test_parts_and_wholes(self):
        pool = [Figure(rows) for rows in list(KINDS.values()) + POOL[:120]]
        dice = random.Random(24)
        for turn in range(400):
            one, other, third = (dice.choice(pool) for each in range(3))
            self.assertEqual(one + one * other, one)
            self.assertEqual(one * (one + other), one)
            self.assertIs(one <= other, one + other == other)
            self.assertIs(one <= other, one * other == one)
            self.assertTrue(one * other + one * third <= one * (other + third))
            self.assertTrue(one + other * third <= (one + other) * (one + third))

    def test_turned(self):
        for one, other in zip(POOL, POOL[1:]):
            one, other = Figure(one), Figure(other)
            self.assertEqual((one + other).turned(), one.turned() + other.turned())
            self.assertEqual((one * other).turned(), one.turned() * other.turned())
            self.assertIs(one <= other, one.turned() <= other.turned())

    def test_sum_of_corners(self):
        for rows in POOL:
            whole = Figure(rows)
            if whole and whole.corners() and all(whole.greatest(a, b) for a, b in ((1, 0), (0, 1), (-1, 0), (0, -1))):
                found = Figure.nothing()
                for x, y in whole.corners():
                    found = found + Figure.point(x, y)
                self.assertEqual(found, whole)


if __name__ == "__main__":
    unittest.main()
