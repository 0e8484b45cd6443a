"""Points and directions that make up a figure: it is all that lies between the points, moved along the directions.

The directions that lead nowhere out of a figure, and the rows that keep a sum of figures on one side, are found in
the same way, by the directions that make no acute angle with some others.
"""

from tiespan.orders import in_order, merged
from tiespan.ratios import ZERO, common_divisor, greatest, is_less, ratio
from tiespan.sides import cross, crossing, lowest

AXES = ((1, 0), (0, 1), (-1, 0), (0, -1))


def is_within(sides, point):
    """Returns whether a point keeps all rows."""
    (x, under_x), (y, under_y) = point
    for a, b, c in sides:
        if (a * x * under_y + b * y * under_x) * c[1] > c[0] * under_x * under_y:
            return False
    return True


def meeting(one, other):
    """Returns the point where the lines of two rows meet."""
    (a, b, c), (d, e, f) = one, other
    return (lowest(crossing(one, other)), lowest(crossing((b, a, c), (e, d, f))))


def corner_points(sides):
    """Returns the corners of a figure by its canonical rows, ascending."""
    points = []
    for at, row in enumerate(sides):
        if cross(sides[at - 1], row) > 0:
            points.append(meeting(sides[at - 1], row))
    return in_order(points)


def foot(row):
    """Returns a point on the line of a row."""
    a, b, c = row
    return (ZERO, ratio(c[0], c[1] * b)) if b != 0 else (ratio(c[0], c[1] * a), ZERO)


def spots(sides):
    """Returns points, ascending, that make up a figure together with its directions."""
    points = corner_points(sides)
    if points:
        return points
    # Without a corner all rows are parallel, so each point on the line of one belongs to the figure.
    return in_order([foot(row) for row in sides]) if sides else [(ZERO, ZERO)]


def turns_off(way, others):
    """Returns whether a direction makes no acute angle with any of some others."""
    for other in others:
        if way[0] * other[0] + way[1] * other[1] > 0:
            return False
    return True


def turned_off(others):
    """Returns directions that make up all those that make no acute angle with any of some others.

    Of these directions the outermost ones are upright on one of the others. An axis lies between these, where they
    span a half plane; and the axes alone make up the whole plane, where there are no others.
    """
    ways = list(AXES)
    for other in others:
        ways.append((-other[1], other[0]))
        ways.append((other[1], -other[0]))
    return [way for way in ways if turns_off(way, others)]


def height(points, a, b):
    """Returns the greatest value of a * x + b * y for some points."""
    top = None
    for (x, under_x), (y, under_y) in points:
        top = greatest(top, (a * x * under_y + b * y * under_x, under_x * under_y))
    return ratio(top[0], top[1])


def reach(points, ways, a, b):
    """Returns the greatest value of a * x + b * y for a figure of points and directions, or None if there is none."""
    return height(points, a, b) if turns_off((a, b), ways) else None


def lies_within(sides, others):
    """Returns whether the figure with some canonical rows, which has a point, keeps all of some other rows."""
    points = spots(sides)
    ways = turned_off(sides)
    for a, b, c in others:
        top = reach(points, ways, a, b)
        if top is None or is_less(c, top):
            return False
    return True


def whole_point(point):
    """Returns integers (x, y, under) for the point (x/under, y/under)."""
    (x, under_x), (y, under_y) = point
    under = under_x * under_y // common_divisor(under_x, under_y)
    return (x * (under // under_x), y * (under // under_y), under)


def edge(one, other):
    """Returns the row with the line through two whole points that has all to the left of the way between them."""
    a = other[1] * one[2] - one[1] * other[2]
    b = one[0] * other[2] - other[0] * one[2]
    return (a, b, (one[0] * other[1] - other[0] * one[1], 1))


def is_left(one, other, point):
    """Returns whether a whole point lies to the left of the way from one whole point to another one."""
    a, b, c = edge(one, other)
    return a * point[0] + b * point[1] < c[0] * point[2]


def bent(points):
    """Returns those of some whole points, in order, at which the way along them all turns to the left."""
    kept = []
    for point in points:
        while len(kept) > 1 and not is_left(kept[-2], kept[-1], point):
            kept.pop()
        kept.append(point)
    return kept


def edges(points):
    """Returns the rows of the edges of the least figure that contains some points, which are ascending."""
    whole = [whole_point(point) for point in points]
    below = bent(whole)
    above = bent(whole[::-1])
    return [edge(way[at], way[at + 1]) for way in (below, above) for at in range(len(way) - 1)]


def joint_rows(sides, others):
    """Returns rows of the least figure that contains two figures, each one given by its canonical rows."""
    points = merged(spots(sides), spots(others))
    ways = turned_off(sides) + turned_off(others)
    rows = [row for row in edges(points) if turns_off(row, ways)]
    return rows + [(a, b, height(points, a, b)) for a, b in turned_off(ways)]
