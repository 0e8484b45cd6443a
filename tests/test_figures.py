"""Promises 9 to 13: figures."""

import random
import unittest
from fractions import Fraction
from itertools import combinations
from math import isqrt

from tests.plain import KINDS, WAYS, bare, canonical, keeps, many_figures, pair, same, shape
from tiespan.errors import EmptyFigure, InvalidRow
from tiespan.figures import Figure
from tiespan.ratios import ratio

ZERO, ONE = (0, 1), (1, 1)
NONE = (-1, 1)
SQUARE = KINDS["square"]
POOL = many_figures(11, 3000, 6)


def figures():
    return [(rows, Figure(rows)) for rows in list(KINDS.values()) + POOL[:300]]


class RowsTest(unittest.TestCase):
    def check(self, rows, found):
        self.assertEqual(Figure(rows).rows(), found)

    def test_area(self):
        self.check([(0, -1, ZERO), (2, 4, (3, 1)), (-3, 0, ONE)], [(1, 2, (3, 2)), (-1, 0, (1, 3)), (0, -1, ZERO)])
        self.check([(5, 0, (2, 1)), (1, 0, (1, 2))], [(1, 0, (2, 5))])
        self.check(KINDS["strip"], [(0, 1, ONE), (0, -1, ONE)])
        self.check(KINDS["wedge with a touching row"], [(-1, 0, ZERO), (0, -1, ZERO)])
        self.check(KINDS["triangle with touching rows"], [(1, 1, ONE), (-1, 0, ZERO), (0, -1, ZERO)])

    def test_order(self):
        ways = [(1, 0), (3, 1), (1, 1), (1, 3), (0, 1), (-1, 3), (-1, 1), (-3, 1), (-1, 0), (-3, -1), (-1, -1), (-1, -3)]
        ways += [(0, -1), (1, -3), (1, -1), (3, -1)]
        rows = [(a, b, (isqrt((a * a + b * b) * 10 ** 12), 1)) for a, b in ways]
        self.check(rows, rows)
        self.check(rows[::-1], rows)
        self.check(rows[::3] + rows[1::3] + rows[2::3], rows)

    def test_lines_and_their_parts(self):
        line = [(1, -2, ONE), (-1, 2, NONE)]
        self.check(line[::-1], [(-1, 2, NONE), (1, -2, ONE)])
        self.check(KINDS["level line"], [(0, 1, (1, 3)), (0, -1, (-1, 3))])
        self.check(KINDS["vertical line"], [(1, 0, (1, 2)), (-1, 0, (-1, 2))])
        self.check(line + [(0, 1, ONE)], [(1, 0, (3, 1)), (-1, 2, NONE), (1, -2, ONE)])
        self.check(line + [(0, -1, ONE)], [(-1, 2, NONE), (-1, 0, ONE), (1, -2, ONE)])
        stretch = [(1, 0, (3, 1)), (-1, 2, NONE), (-1, 0, ONE), (1, -2, ONE)]
        self.check(line + [(0, -1, ONE), (0, 1, ONE)], stretch)
        vertical = [(1, 0, ONE), (-1, 0, NONE)]
        self.check(vertical + [(1, 1, ONE)], [(1, 0, ONE), (0, 1, ZERO), (-1, 0, NONE)])
        self.check(vertical + [(1, -1, ONE)], [(1, 0, ONE), (-1, 0, NONE), (0, -1, ZERO)])
        found = [(1, 0, ONE), (0, 1, ZERO), (-1, 0, NONE), (0, -1, (3, 1))]
        self.check(vertical + [(1, 1, ONE), (0, -2, (6, 1))], found)

    def test_points_planes_and_nothing(self):
        point = [(1, 0, (1, 2)), (0, 1, (-1, 3)), (-1, 0, (-1, 2)), (0, -1, (1, 3))]
        self.assertEqual(Figure.point((1, 2), (-1, 3)).rows(), point)
        self.assertEqual(Figure.point(x=(1, 2), y=(-1, 3)), Figure(rows=point))
        self.check([(2, 0, ONE), (-2, 0, NONE), (0, -3, ONE), (1, 3, (-1, 2))], point)
        self.check(KINDS["point"], [(1, 0, ZERO), (0, 1, ZERO), (-1, 0, ZERO), (0, -1, ZERO)])
        self.check([], [])
        self.assertEqual(Figure().rows(), [])
        self.assertEqual(Figure.nothing().rows(), [])
        self.check(KINDS["three rows without a point"], [])
        self.assertNotEqual(Figure(), Figure.nothing())

    def test_kinds_against_the_plain_way(self):
        for kind, rows in KINDS.items():
            with self.subTest(kind=kind):
                self.assertTrue(same(Figure(rows), canonical(rows)))
                self.assertTrue(same(Figure(rows[::-1]), canonical(rows)))

    def test_all_figures_of_few_rows_against_the_plain_way(self):
        ways = [(1, 0), (1, 1), (0, 1), (-1, 1), (-1, 0), (-2, -1), (-1, -1), (0, -1), (1, -1)]
        rows = [(a, b, c) for a, b in ways for c in (ZERO, ONE, NONE)]
        for many in range(4):
            for told in combinations(rows, many):
                self.assertTrue(same(Figure(told), canonical(list(told))), told)

    def test_all_figures_of_four_touching_rows_against_the_plain_way(self):
        rows = [(a, b, ZERO) for a, b in WAYS] + [(1, 0, ONE), (-1, -1, NONE), (0, 1, (1, 2))]
        for told in combinations(rows, 4):
            self.assertTrue(same(Figure(told), canonical(list(told))), told)

    def test_many_against_the_plain_way(self):
        for rows in POOL + many_figures(12, 400, 12):
            self.assertTrue(same(Figure(rows), canonical(rows)), rows)

    def test_same_however_it_is_written(self):
        dice = random.Random(13)
        for rows, figure in figures():
            points, ways = shape(rows)
            other = [(a * by, b * by, ratio(c[0] * by, c[1])) for a, b, c in rows for by in (1, dice.randint(2, 9))]
            if points:
                for a, b in WAYS:
                    if all(a * x + b * y <= 0 for x, y in ways):
                        most = max(a * x + b * y for x, y in points)
                        other.append((a, b, pair(most + dice.choice([0, 0, 1]))))
            dice.shuffle(other)
            self.assertEqual(Figure(other).rows(), figure.rows())
            self.assertEqual(Figure(tuple(other)), figure)
            if figure:
                self.assertEqual(Figure(figure.rows()), figure)
                self.assertEqual(Figure(figure.rows()).rows(), figure.rows())

    def test_returned_lists_are_new(self):
        figure = Figure(SQUARE)
        figure.rows().clear()
        figure.corners().append(1)
        self.assertEqual((len(figure.rows()), len(figure.corners())), (4, 4))
        rows = list(SQUARE)
        figure = Figure(rows)
        rows.clear()
        self.assertEqual(len(figure), 4)


class InvalidRowTest(unittest.TestCase):
    THINGS = [
        None, True, 0, 5, "", "abc", (), [], (1, 2), (1, 2, ZERO, ZERO), [1, 2, ZERO], (0, 0, ZERO), (0, 0, ONE),
        (True, 0, ZERO), (0, True, ZERO), (1, False, ZERO), (False, False, ZERO), (1, 2, 3), (1, 2, None), (1, 2, True),
        (1, 2, (2, 4)), (1, 2, (1, 0)), (1, 2, (1, -1)), (1, 2, [1, 1]), (1, 2, (1,)), (1, 2, "1"), (1, 2, (True, 1)),
        ("1", 2, ZERO), (1, "2", ZERO), (None, 1, ZERO), (1, None, ZERO), (ONE, ONE, ZERO), (1, ONE, ZERO), ((1, 2, ZERO),),
        [(1, 2, ZERO)], (1, [2], ZERO), ([], [], []), (1, 2, (1, (1, 1))), (1, 2, (0, 2)), ("x", "y", "z"),
    ]

    def test_each_thing(self):
        good = [(1, 0, ZERO), (-1, 0, (-2, 1)), (0, 1, ONE)]
        for thing in self.THINGS:
            for at in range(4):
                for kind in (list, tuple):
                    rows = kind(good[:at] + [thing] + good[at:] + [None])
                    with self.assertRaises(InvalidRow) as caught:
                        Figure(rows)
                    self.assertEqual(caught.exception.at, at, thing)

    def test_list_stays(self):
        dice = random.Random(14)
        for rows in POOL[:200]:
            rows = rows + [(a * 2, b * 2, c) for a, b, c in rows]
            dice.shuffle(rows)
            kept = list(rows)
            figure = Figure(rows)
            self.assertEqual(rows, kept)
            figure * Figure(rows), figure + Figure(rows), figure.turned()
            self.assertEqual(rows, kept)
        rows = [(1, 0, ZERO), [1], None]
        with self.assertRaises(InvalidRow):
            Figure(rows)
        self.assertEqual(rows, [(1, 0, ZERO), [1], None])


class AskingTest(unittest.TestCase):
    def test_contains(self):
        square = Figure(SQUARE)
        for x in (ZERO, (1, 2), ONE):
            for y in (ZERO, (1, 3), ONE):
                self.assertIs((x, y) in square, True)
        for point in [((-1, 10 ** 30), ZERO), (ZERO, (10 ** 30 + 1, 10 ** 30)), ((2, 1), (2, 1)), (ONE, (-1, 2))]:
            self.assertIs(point in square, False)
            self.assertIs(point in Figure(), True)
            self.assertIs(point in Figure.nothing(), False)
            self.assertIs(point in Figure.point(*point), True)
            self.assertIs((point[1], point[0]) in Figure.point(*point), point[0] == point[1])

    def test_contains_against_the_plain_way(self):
        for rows, figure in figures():
            told = [bare(row) for row in rows]
            for x in (-2, Fraction(-1, 2), 0, 1, Fraction(4, 3)):
                for y in (-1, 0, Fraction(1, 3), 1, 2):
                    self.assertIs((pair(Fraction(x)), pair(Fraction(y))) in figure, keeps(told, (x, y)))

    def test_column_of_examples(self):
        self.assertEqual(Figure().column(ZERO), (None, None))
        self.assertIsNone(Figure.nothing().column(ZERO))
        self.assertEqual(Figure(SQUARE).column((1, 2)), (ZERO, ONE))
        self.assertEqual(Figure(SQUARE).column(ONE), (ZERO, ONE))
        self.assertIsNone(Figure(SQUARE).column(x=(3, 2)))
        self.assertEqual(Figure(KINDS["triangle"]).column(ONE), (ZERO, ZERO))
        self.assertEqual(Figure(KINDS["wedge"]).column((5, 7)), (ZERO, None))
        self.assertEqual(Figure(KINDS["half plane"]).column((1, 2)), (None, (1, 2)))
        self.assertEqual(Figure(KINDS["left half plane"]).column((3, 2)), (None, None))
        self.assertIsNone(Figure(KINDS["left half plane"]).column((4, 3)))
        self.assertEqual(Figure.point((1, 2), (1, 3)).column((1, 2)), ((1, 3), (1, 3)))
        self.assertIsNone(Figure.point((1, 2), (1, 3)).column((1, 3)))
        self.assertIsNone(Figure(KINDS["narrow wedge"]).column(ONE) and Figure(KINDS["narrow wedge"]).column(NONE))

    def test_column_against_the_plain_way(self):
        for rows, figure in figures():
            for x in (Fraction(-2), Fraction(-1, 3), Fraction(0), Fraction(1), Fraction(5, 2)):
                points, ways = shape(list(rows) + [(1, 0, pair(x)), (-1, 0, pair(-x))])
                found = None
                if points:
                    low = None if (0, -1) in ways else pair(min(point[1] for point in points))
                    found = (low, None if (0, 1) in ways else pair(max(point[1] for point in points)))
                self.assertEqual(figure.column(pair(x)), found)

    def test_greatest_of_examples(self):
        self.assertEqual(Figure(SQUARE).greatest(1, 1), (2, 1))
        self.assertEqual(Figure(SQUARE).greatest(b=0, a=-3), ZERO)
        self.assertEqual(Figure(KINDS["triangle"]).greatest(2, 3), (3, 1))
        self.assertEqual(Figure(KINDS["half plane"]).greatest(3, 6), (9, 2))
        self.assertIsNone(Figure(KINDS["half plane"]).greatest(-3, -6))
        self.assertIsNone(Figure(KINDS["half plane"]).greatest(3, 7))
        self.assertEqual(Figure(KINDS["strip"]).greatest(0, 5), (5, 1))
        self.assertIsNone(Figure(KINDS["strip"]).greatest(1, 0))
        self.assertEqual(Figure(KINDS["line"]).greatest(2, -4), (2, 1))
        self.assertIsNone(Figure().greatest(1, 0))
        self.assertIsNone(Figure().greatest(-1, -5))
        self.assertEqual(Figure.point((1, 2), (1, 3)).greatest(6, 6), (5, 1))
        self.assertEqual(Figure(SQUARE).greatest(10 ** 30, 0), (10 ** 30, 1))

    def test_greatest_for_two_zeros(self):
        for rows, figure in figures():
            if figure:
                self.assertEqual(figure.greatest(0, 0), ZERO)

    def test_greatest_against_the_plain_way(self):
        for rows, figure in figures():
            points, ways = shape(rows)
            for a, b in WAYS + [(5, -7), (-3, 1), (10, 4)]:
                if not points:
                    with self.assertRaises(EmptyFigure):
                        figure.greatest(a, b)
                elif any(a * x + b * y > 0 for x, y in ways):
                    self.assertIsNone(figure.greatest(a, b))
                else:
                    self.assertEqual(figure.greatest(a, b), pair(max(a * x + b * y for x, y in points)))

    def test_greatest_of_nothing(self):
        for a, b in [(0, 0), (1, 0), (0, -1), (3, 4)]:
            with self.assertRaises(EmptyFigure):
                Figure.nothing().greatest(a, b)


class CornersTest(unittest.TestCase):
    def test_examples(self):
        self.assertEqual(Figure(SQUARE).corners(), [(ZERO, ZERO), (ZERO, ONE), (ONE, ZERO), (ONE, ONE)])
        self.assertEqual(Figure(KINDS["wedge"]).corners(), [(ZERO, ZERO)])
        self.assertEqual(Figure(KINDS["half strip"]).corners(), [((-3, 1), NONE), ((-3, 1), ONE)])
        self.assertEqual(Figure(KINDS["stretch"]).corners(), [(ZERO, ONE), (ONE, ZERO)])
        self.assertEqual(Figure(KINDS["vertical stretch"]).corners(), [(ONE, ZERO), (ONE, (3, 1))])
        self.assertEqual(Figure(KINDS["ray"]).corners(), [(ZERO, ZERO)])
        self.assertEqual(Figure(KINDS["ray upward"]).corners(), [(ONE, ZERO)])
        self.assertEqual(Figure(KINDS["other point"]).corners(), [((1, 2), (1, 3))])
        for kind in ("plane", "half plane", "strip", "line", "vertical line", "three rows without a point"):
            self.assertEqual(Figure(KINDS[kind]).corners(), [])
        self.assertEqual(Figure.nothing().corners(), [])

    def test_order_is_that_of_numbers(self):
        rows = [(-1, 0, (10, 1)), (1, 0, (9, 1)), (0, 1, (10, 1)), (0, -1, (-9, 1))]
        ten, nine = (10, 1), (9, 1)
        self.assertEqual(Figure(rows).corners(), [((-10, 1), nine), ((-10, 1), ten), (nine, nine), (nine, ten)])

    def test_against_the_plain_way(self):
        for rows, figure in figures():
            points, ways = shape(rows)
            endless = any((-x, -y) in ways for x, y in ways)
            found = [] if endless else [(pair(x), pair(y)) for x, y in points]
            self.assertEqual(figure.corners(), found)

    def test_turned(self):
        self.assertEqual(Figure(KINDS["line"]).turned().rows(), [(2, -1, NONE), (-2, 1, ONE)][::-1])
        self.assertEqual(Figure(KINDS["ray upward"]).turned().rows(), [(0, 1, ONE), (-1, 0, ZERO), (0, -1, NONE)])
        self.assertEqual(Figure().turned(), Figure())
        self.assertEqual(Figure.nothing().turned(), Figure.nothing())
        for rows, figure in figures():
            turned = figure.turned()
            self.assertTrue(same(turned, canonical([(b, a, c) for a, b, c in rows])))
            self.assertEqual(turned.turned(), figure)
            self.assertEqual(len(turned.corners()), len(figure.corners()))


class ComparingTest(unittest.TestCase):
    def test_examples(self):
        square, wedge, line = Figure(SQUARE), Figure(KINDS["wedge"]), Figure(KINDS["line"])
        self.assertIs(square <= wedge, True)
        self.assertIs(wedge <= square, False)
        self.assertIs(wedge >= square, True)
        self.assertIs(square <= square, True)
        self.assertIs(line <= wedge, False)
        self.assertIs(Figure.point(ONE, ZERO) <= line, True)
        self.assertIs(Figure.nothing() <= square, True)
        self.assertIs(Figure.nothing() <= Figure.nothing(), True)
        self.assertIs(square <= Figure.nothing(), False)
        self.assertIs(Figure() <= Figure.nothing(), False)
        self.assertIs(Figure() <= square, False)
        self.assertIs(square <= Figure(), True)
        self.assertIs(Figure() <= Figure(), True)
        self.assertEqual(square * wedge, square)
        self.assertEqual((square * line).rows(), Figure.point(ONE, ZERO).rows())
        self.assertEqual(square * Figure(), square)
        self.assertEqual(Figure() * Figure(), Figure())
        self.assertEqual(square * Figure.nothing(), Figure.nothing())
        self.assertEqual(Figure.nothing() * Figure(), Figure.nothing())
        self.assertFalse(square * Figure.point((2, 1), ZERO))

    def test_products_against_the_plain_way(self):
        kinds = list(KINDS.values())
        told = [(one, other) for one in kinds for other in kinds] + list(zip(POOL, POOL[1:]))
        for one, other in told:
            found = Figure(one) * Figure(other)
            self.assertTrue(same(found, canonical(list(one) + list(other))))
            self.assertEqual(found, Figure(list(one) + list(other)))

    def test_parts_against_the_plain_way(self):
        pool = figures()
        for one, figure in pool[::5]:
            points, ways = shape(one)
            for other, whole in pool[::5]:
                inside = all(keeps([bare(row) for row in other], point) for point in points)
                inside = inside and all(a * x + b * y <= 0 for a, b, c in other for x, y in ways)
                self.assertIs(figure <= whole, inside)
                self.assertIs(figure <= whole, figure * whole == figure)
                self.assertIs(figure == whole, figure <= whole and whole <= figure)
                self.assertIs(figure != whole, not figure == whole)

    def test_equal_to_nothing_else(self):
        for figure in (Figure(), Figure.nothing(), Figure(SQUARE)):
            for thing in (None, 0, True, False, "", (), [], figure.rows(), tuple(figure.rows()), repr(figure), SQUARE):
                self.assertIs(figure == thing, False)
                self.assertIs(thing == figure, False)
                self.assertIs(figure != thing, True)

    def test_truth_length_and_repr(self):
        for rows, figure in figures():
            self.assertIs(bool(figure), bool(shape(rows)[0]))
            self.assertEqual(len(figure), len(figure.rows()))
            self.assertEqual(repr(figure), f"Figure({len(figure)} rows)")
        self.assertIs(bool(Figure()), True)
        self.assertEqual(repr(Figure()), "Figure(0 rows)")
        self.assertEqual(repr(Figure.nothing()), "Figure(0 rows)")
        self.assertEqual(repr(Figure([(1, 0, ZERO)])), "Figure(1 rows)")
        self.assertEqual(str(Figure(SQUARE)), "Figure(4 rows)")

    def test_figures_do_not_change(self):
        for (rows, one), (more, other) in zip(figures(), figures()[1:]):
            kept = one.rows(), bool(one), other.rows(), bool(other)
            one * other, one + other, one <= other, one == other, one.turned(), one.corners(), one.column(ZERO)
            self.assertEqual((one.rows(), bool(one), other.rows(), bool(other)), kept)


if __name__ == "__main__":
    unittest.main()
