"""A second, plain way to work out figures, with Python's fractions and by trying everything.

A figure is held as its corners (or one point on each line, if all rows are parallel) and the directions in which it
is endless. A row follows from others if it holds at all these points and in all these directions.
"""

import random
from fractions import Fraction
from itertools import combinations
from math import gcd


def bare(row):
    a, b, c = row
    return Fraction(a), Fraction(b), Fraction(c[0], c[1])


def pair(number):
    return (number.numerator, number.denominator)


def keeps(rows, point):
    return all(a * point[0] + b * point[1] <= c for a, b, c in rows)


def crossing(one, other):
    (a, b, c), (d, e, f) = one, other
    under = a * e - b * d
    return None if under == 0 else ((c * e - f * b) / under, (a * f - d * c) / under)


def shape(rows):
    """Returns the points and directions of a figure; no points if it has none."""
    rows = [bare(row) for row in rows]
    meets = [crossing(one, other) for one, other in combinations(rows, 2)]
    if not rows:
        points = [(Fraction(0), Fraction(0))]
    elif all(one[0] * other[1] == one[1] * other[0] for one, other in combinations(rows, 2)):
        points = [(a * c / (a * a + b * b), b * c / (a * a + b * b)) for a, b, c in rows]
    else:
        points = [meet for meet in meets if meet is not None]
    points = sorted(set(point for point in points if keeps(rows, point)))
    ways = [(1, 0), (-1, 0), (0, 1), (0, -1)]
    for a, b, c in rows:
        ways += [(b, -a), (-b, a), (-a, -b)]
    ways = [way for way in ways if all(a * way[0] + b * way[1] <= 0 for a, b, c in rows)]
    return points, (ways if points else [])


def follows(row, points, ways):
    a, b, c = row
    return all(a * x + b * y <= c for x, y in points) and all(a * x + b * y <= 0 for x, y in ways)


def whole_row(a, b, c):
    """Returns the row of numbers with integers without a common divisor."""
    a, b, c = Fraction(a), Fraction(b), Fraction(c)
    scale = a.denominator * b.denominator
    first, second = int(a * scale), int(b * scale)
    shared = gcd(first, second)
    return (first // shared, second // shared, pair(c * scale / shared))


def turn_of(row):
    """Returns the quarter turn of a direction, counterclockwise from (1, 0), and how far it lies behind its begin."""
    a, b = row[0], row[1]
    quarter = 0
    while not (a > 0 and b >= 0):
        a, b = b, -a
        quarter += 1
    return quarter, Fraction(b, a)


def tightest(rows):
    kept = {}
    for row in rows:
        a, b, c = whole_row(*bare(row))
        if (a, b) not in kept or Fraction(*c) < Fraction(*kept[a, b]):
            kept[a, b] = c
    return [(a, b, kept[a, b]) for a, b in kept]


def caps(points, ways, axis):
    """Returns the rows for the greatest and the least number of an axis that exist."""
    rows = []
    for sign in (1, -1):
        if all(sign * way[axis] <= 0 for way in ways):
            most = max(sign * point[axis] for point in points)
            rows.append((sign, 0, pair(most)) if axis == 0 else (0, sign, pair(most)))
    return rows


def canonical_of(points, ways, rows):
    """Returns the canonical rows of a figure with a point, of which some rows are known."""
    base = points[0]
    ends = list(ways) + [(x - base[0], y - base[1]) for x, y in points[1:]]
    ends = [(x, y) for x, y in ends if (x, y) != (0, 0)]
    if not ends:
        found = caps(points, ways, 0) + caps(points, ways, 1)
    elif all(ends[0][0] * y == ends[0][1] * x for x, y in ends):
        a, b = -ends[0][1], ends[0][0]
        found = [whole_row(a, b, a * base[0] + b * base[1]), whole_row(-a, -b, -a * base[0] - b * base[1])]
        found += caps(points, ways, 1 if b == 0 else 0)
    else:
        rows = tightest(rows)
        found = []
        for row in rows:
            others = [other for other in rows if other != row]
            if not follows(bare(row), *shape(others)):
                found.append(row)
    return sorted(found, key=turn_of)


def canonical(rows):
    """Returns the canonical rows of a figure, or None if it has no point."""
    points, ways = shape(rows)
    return canonical_of(points, ways, rows) if points else None


def joined(rows, others):
    """Returns the canonical rows of the least figure that contains two figures, or None."""
    points, ways = shape(rows)
    more, further = shape(others)
    points, ways = sorted(set(points + more)), ways + further
    if not points:
        return None
    sides = [(1, 0), (-1, 0), (0, 1), (0, -1)]
    for (x, y), (v, w) in combinations(points, 2):
        sides += [(y - w, v - x), (w - y, x - v)]
    for x, y in ways:
        sides += [(-y, x), (y, -x)]
    sides = [(a, b) for a, b in sides if all(a * x + b * y <= 0 for x, y in ways)]
    found = [whole_row(a, b, max(a * x + b * y for x, y in points)) for a, b in sides]
    return canonical(found)


def same(figure, rows):
    """Returns whether a figure has exactly these canonical rows; None means that it has no point."""
    if rows is None:
        return figure.rows() == [] and not figure
    return figure.rows() == rows and bool(figure)


WAYS = [(1, 0), (0, 1), (-1, 0), (0, -1), (1, 1), (-1, -1), (1, -1), (-1, 1), (2, 1), (-2, -1), (-1, 2), (3, -2)]
BOUNDS = [(-2, 1), (-1, 1), (-1, 2), (0, 1), (0, 1), (1, 3), (1, 1), (2, 1), (3, 1)]


def few_rows(dice, most):
    """Returns up to some rows, often such as touch in one point or lie on one line."""
    rows = []
    x, y = dice.randint(-2, 2), dice.randint(-2, 2)
    for turn in range(dice.randint(0, most)):
        a, b = dice.choice(WAYS)
        kind = dice.randint(0, 3)
        bound = (a * x + b * y, 1) if kind == 0 else dice.choice(BOUNDS)
        if kind == 1 and rows:
            a, b, bound = rows[-1]
            a, b, bound = -a, -b, (-bound[0], bound[1])
        rows.append((a, b, bound))
    return rows


def many_figures(seed, count, most):
    dice = random.Random(seed)
    return [few_rows(dice, most) for turn in range(count)]


KINDS = {
    "plane": [],
    "half plane": [(2, 4, (3, 1))],
    "left half plane": [(-1, 0, (-3, 2))],
    "strip": [(0, 1, (1, 1)), (0, -1, (1, 1))],
    "slanting strip": [(2, -1, (1, 1)), (-4, 2, (1, 1))],
    "two opposite rows without a point": [(1, 1, (-1, 1)), (-1, -1, (0, 1))],
    "line": [(1, -2, (1, 1)), (-1, 2, (-1, 1))],
    "level line": [(0, 3, (1, 1)), (0, -3, (-1, 1))],
    "vertical line": [(1, 0, (1, 2)), (-1, 0, (-1, 2))],
    "ray": [(1, -1, (0, 1)), (-1, 1, (0, 1)), (0, -1, (0, 1))],
    "ray to the left": [(1, -1, (0, 1)), (-1, 1, (0, 1)), (0, 1, (0, 1))],
    "ray upward": [(1, 0, (1, 1)), (-1, 0, (-1, 1)), (0, -1, (0, 1))],
    "ray downward": [(1, 0, (1, 1)), (-1, 0, (-1, 1)), (0, 1, (0, 1))],
    "stretch": [(1, 1, (1, 1)), (-1, -1, (-1, 1)), (-1, 0, (0, 1)), (0, -1, (0, 1))],
    "level stretch": [(0, 1, (1, 1)), (0, -1, (-1, 1)), (-1, 0, (0, 1)), (1, 0, (2, 1))],
    "vertical stretch": [(1, 0, (1, 1)), (-1, 0, (-1, 1)), (0, -1, (0, 1)), (1, 1, (4, 1))],
    "point": [(1, 0, (0, 1)), (0, 1, (0, 1)), (-1, -1, (0, 1))],
    "other point": [(1, 0, (1, 2)), (-1, 0, (-1, 2)), (0, 1, (1, 3)), (0, -1, (-1, 3))],
    "wedge": [(-1, 0, (0, 1)), (0, -1, (0, 1))],
    "wedge with a touching row": [(-1, 0, (0, 1)), (0, -1, (0, 1)), (-1, -1, (0, 1)), (-2, -1, (0, 1))],
    "narrow wedge": [(-2, 1, (0, 1)), (1, -1, (0, 1))],
    "half strip": [(0, 1, (1, 1)), (0, -1, (1, 1)), (-1, 0, (3, 1))],
    "triangle": [(-1, 0, (0, 1)), (0, -1, (0, 1)), (1, 1, (1, 1))],
    "triangle with touching rows": [(-1, 0, (0, 1)), (0, -1, (0, 1)), (1, 1, (1, 1)), (1, 0, (1, 1)), (0, 1, (1, 1))],
    "square": [(-1, 0, (0, 1)), (0, -1, (0, 1)), (1, 0, (1, 1)), (0, 1, (1, 1))],
    "three rows without a point": [(-1, 0, (0, 1)), (0, -1, (0, 1)), (1, 1, (-1, 1))],
    "nearly a point": [(-1, 0, (0, 1)), (0, -1, (0, 1)), (1, 1, (1, 10 ** 30))],
}
