"""Promises 2, 9 to 15 for sixty rows and integers of thirty digits: each call ends, and what it returns fits."""

import random
import unittest
from math import isqrt

from tests.plain import bare, canonical, pair, shape, whole_row
from tiespan.figures import Figure
from tiespan.ratios import ratio

MOST = 10 ** 30 - 1


def tangents(dice, many, x, y, radius):
    """Returns rows nearly all of which bound the figure: they lie around a circle."""
    rows = []
    for turn in range(many):
        a, b = dice.randint(-MOST, MOST), dice.randint(-MOST, MOST)
        rows.append((a, b, ratio(a * x + b * y + isqrt(a * a + b * b) * radius)))
    return rows


def any_rows(dice, many):
    numbers = [[dice.randint(-MOST, MOST) for each in range(3)] + [dice.randint(1, MOST)] for turn in range(many)]
    return [(a, b, ratio(abs(top), under)) for a, b, top, under in numbers]


def touches(row, point):
    a, b, c = bare(row)
    return a * point[0] + b * point[1] == c


class LargeTest(unittest.TestCase):
    def test_twenty_rows_against_the_plain_way(self):
        dice = random.Random(34)
        for rows in (tangents(dice, 20, 0, 0, 7), any_rows(dice, 20), any_rows(dice, 5)):
            self.assertEqual(Figure(rows).rows(), canonical(rows))

    def test_rows_of_sixty(self):
        dice = random.Random(31)
        for rows in (tangents(dice, 60, 0, 0, 7), any_rows(dice, 60), any_rows(dice, 75)):
            figure = Figure(rows)
            points, ways = shape(rows)
            self.assertEqual(ways, [])
            self.assertEqual(figure.corners(), [(pair(x), pair(y)) for x, y in points])
            # A row of a bounded area follows from the others if no two corners lie on its line.
            touched = [row for row in rows if sum(touches(row, point) for point in points) == 2]
            self.assertEqual(set(figure.rows()), set(whole_row(*bare(row)) for row in touched))
            self.assertEqual(len(figure), len(touched))

    def test_sums_and_products_of_sixty(self):
        dice = random.Random(32)
        ones = [Figure(tangents(dice, 60, x, y, 10 ** 6)) for x, y in ((0, 0), (10 ** 6, 5), (7, 10 ** 6 + 1))]
        one, other, third = ones
        self.assertGreater(min(len(figure) for figure in ones), 40)
        both = one + other
        self.assertGreater(len(both), 40)
        self.assertTrue(one <= both and other <= both and not both <= one)
        self.assertEqual((one + other) + third, one + (other + third))
        self.assertEqual((one * other) * third, one * (other * third))
        self.assertTrue(one * other + third <= both + third)
        mixed = ((one * other) + third) * ((one + third) * other + Figure.point((0, 1), (1, 3)))
        self.assertEqual(mixed, Figure(mixed.rows()))
        self.assertEqual(mixed.turned().turned(), mixed)
        for (x, y) in mixed.corners():
            self.assertIn((x, y), mixed)

    def test_long_chains(self):
        dice = random.Random(33)
        one = Figure(tangents(dice, 20, 0, 0, 10 ** 6))
        for turn in range(6):
            other = Figure(tangents(dice, 20, turn * 10 ** 5, 0, 10 ** 6))
            one = one * other + Figure(tangents(dice, 10, 0, turn * 10 ** 5, 10 ** 5))
            self.assertEqual(one * other + one, one)

    def test_numbers_far_beyond_thirty_digits(self):
        long = 10 ** 1500 + 7
        rows = [(long, long + 1, ratio(long + 5, long + 9)), (-long, long - 3, ratio(long)), (3, -long, ratio(1, long))]
        self.assertEqual(Figure(rows).rows(), canonical(rows))

    def test_nearly_nothing(self):
        for top in (-1, 0, 1):
            rows = [(-1, 0, (0, 1)), (0, -1, (0, 1)), (MOST, MOST - 1, ratio(top, MOST))]
            self.assertIs(bool(Figure(rows)), top >= 0)
            self.assertEqual(len(Figure(rows)), [0, 4, 3][top + 1])


if __name__ == "__main__":
    unittest.main()
