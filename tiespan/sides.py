"""Canonical rows of a figure.

Rows with a second integer above 0 bound the second numbers of the points from above, those with one below 0 from
below; the others are walls. Each bound from above together with each one from below gives a bound of the first
numbers, and these bounds and the walls tell what kind of figure the rows have.
"""

from tiespan.orders import in_order
from tiespan.ratios import ZERO, common_divisor, greatest, is_less, is_ratio, is_whole, least, ratio


def is_row(thing):
    """Returns whether a value is a row."""
    if not isinstance(thing, tuple) or len(thing) != 3:
        return False
    a, b, c = thing
    return is_whole(a) and is_whole(b) and (a != 0 or b != 0) and is_ratio(c)


def cross(one, other):
    """Returns a number above 0 if less than a half turn counterclockwise leads from one direction to another one."""
    return one[0] * other[1] - one[1] * other[0]


def opposite(row):
    """Returns the row that has the line of a row and the other half plane."""
    a, b, c = row
    return (-a, -b, (-c[0], c[1]))


def loose(top, under):
    """Returns a fraction that need not be in lowest terms, because finding these takes most of the time."""
    return (-top, -under) if under < 0 else (top, under)


def lowest(one):
    """Returns a number in lowest terms, or None for None."""
    return None if one is None else ratio(one[0], one[1])


def tightest(rows):
    """Returns one row for each direction, with integers without a common divisor, and the least bound."""
    bounds = {}
    for a, b, c in rows:
        shared = common_divisor(a, b)
        way = (a // shared, b // shared)
        bounds[way] = least(bounds.get(way), ratio(c[0], c[1] * shared))
    return [(a, b, bounds[(a, b)]) for a, b in bounds]


def by_slope(rows):
    """Returns rows that are no walls in the order of their directions, which lie within less than a half turn."""
    placed = [(loose(-row[0], row[1]), ZERO, row) for row in rows]
    return [thing[2] for thing in in_order(placed)]


def follows(row, one, other):
    """Returns whether a row follows from two others, between the directions of which it lies."""
    top, under = row[2]
    first, second = one[2], other[2]
    mine = top * first[1] * second[1] * cross(one, other)
    theirs = first[0] * second[1] * cross(row, other) + second[0] * first[1] * cross(one, row)
    return mine >= theirs * under


def chain(rows):
    """Returns those of some rows, by slope, none of which follows from the others; all bound the same side."""
    kept = []
    for row in by_slope(rows):
        while len(kept) > 1 and follows(kept[-1], kept[-2], row):
            kept.pop()
        kept.append(row)
    return kept


def crossing(one, other):
    """Returns the first number of the point where the lines of two rows meet."""
    (a, b, c), (d, e, f) = one, other
    return loose(c[0] * f[1] * e - f[0] * c[1] * b, c[1] * f[1] * cross(one, other))


def wall_stretch(rows):
    """Returns the stretch of the first numbers that the walls among some rows leave."""
    low = top = None
    for a, b, c in rows:
        if b == 0 and a > 0:
            top = c
        elif b == 0:
            low = (-c[0], c[1])
    return low, top


def first_numbers(rows, tops, floors):
    """Returns the stretch of the first numbers of the points, or None if there is no point."""
    low, top = wall_stretch(rows)
    for one in tops:
        for other in floors:
            c, f = one[2], other[2]
            a = cross(other, one)
            bound = f[0] * c[1] * one[1] - c[0] * f[1] * other[1]
            if a > 0:
                top = least(top, (bound, a * c[1] * f[1]))
            elif a < 0:
                low = greatest(low, (-bound, -a * c[1] * f[1]))
            elif bound < 0:
                return None
    if low is not None and top is not None and is_less(top, low):
        return None
    return lowest(low), lowest(top)


def second_numbers(rows, x):
    """Returns the stretch of the second numbers that rows leave at a first number; walls do not count."""
    low = top = None
    for a, b, c in rows:
        bound = loose(c[0] * x[1] - a * x[0] * c[1], c[1] * x[1] * b) if b != 0 else None
        if b > 0:
            top = least(top, bound)
        else:
            low = greatest(low, bound)
    return lowest(low), lowest(top)


def framed(low, top, tops, floors):
    """Returns rows from above and from below, and walls at two first numbers, None for no wall, in order."""
    right = [] if top is None else [(1, 0, top)]
    left = [] if low is None else [(-1, 0, (-low[0], low[1]))]
    return right + tops + left + floors


def upright(rows, x):
    """Returns the canonical rows of a figure all points of which have one first number."""
    low, top = second_numbers(rows, x)
    tops = [] if top is None else [(0, 1, top)]
    floors = [] if low is None else [(0, -1, (-low[0], low[1]))]
    return framed(x, x, tops, floors)


def wall(rows, x):
    """Returns an outermost first number of an area if the area has more than one point there, otherwise None."""
    if x is None:
        return None
    low, top = second_numbers(rows, x)
    return None if low is not None and low == top else x


def shown(rows, low, top):
    """Returns the rows of a chain, from right to left, that bound the area at more than one of its first numbers."""
    found = []
    for at, row in enumerate(rows):
        right = crossing(rows[at - 1], row) if at > 0 else None
        left = crossing(row, rows[at + 1]) if at + 1 < len(rows) else None
        if right is not None and low is not None and not is_less(low, right):
            continue
        if left is not None and top is not None and not is_less(left, top):
            continue
        found.append(row)
    return found


def canonical(rows):
    """Returns the canonical rows of the figure with some rows, or None if it has no point."""
    tight = tightest(rows)
    tops = chain([row for row in tight if row[1] > 0])
    floors = chain([row for row in tight if row[1] < 0])
    stretch = first_numbers(tight, tops, floors)
    if stretch is None:
        return None
    low, top = stretch
    if low is not None and low == top:
        return upright(tops + floors, low)
    for row in tops:
        if opposite(row) in floors:
            return framed(low, top, [row], [opposite(row)])
    left = wall(tops + floors, low)
    right = wall(tops + floors, top)
    return framed(left, right, shown(tops, low, top), shown(floors[::-1], low, top)[::-1])
