"""Rows between two unknowns: rows without a third one that follow from others, and which of many rows count.

Many rows follow from few, but only few of them count. So rows are compared as they come, with integers that have
common divisors and bounds that are not in lowest terms; finding these takes the most time and is done at the end.
"""

from tiespan.orders import in_order
from tiespan.ratios import least
from tiespan.sides import canonical, cross, first_numbers, follows, loose


def turned_rows(rows):
    """Returns rows for exchanged axes."""
    return [(b, a, c) for a, b, c in rows]


def walls(stretch):
    """Returns the rows that keep the first numbers in a stretch."""
    low, top = stretch
    right = [] if top is None else [(1, 0, top)]
    left = [] if low is None else [(-1, 0, (-low[0], low[1]))]
    return right + left


def frame(first, second):
    """Returns the rows that keep the first and the second numbers in a stretch each."""
    return walls(first) + turned_rows(walls(second))


def resolved(ones, others):
    """Returns what follows, without y, from rows of x and y and from rows of y and z: rows of x and z."""
    found = []
    for a, b, c in ones:
        for d, e, f in others:
            if (b > 0 and d < 0) or (b < 0 and d > 0):
                mine, yours = abs(d), abs(b)
                bound = (mine * c[0] * f[1] + yours * f[0] * c[1], c[1] * f[1])
                found.append((mine * a, yours * e, bound))
    return found


def envelope(rows):
    """Returns those of some rows, all with second integers of one sign, none of which follows from others of them."""
    placed = in_order([(loose(-a, b), (c[0], c[1] * abs(b)), (a, b, c)) for a, b, c in rows])
    kept = []
    for slope, bound, row in placed:
        if kept and cross(kept[-1], row) == 0:
            continue
        while len(kept) > 1 and follows(kept[-1], kept[-2], row):
            kept.pop()
        kept.append(row)
    return kept


def tight_walls(rows):
    """Returns the tightest wall to the right and to the left among some rows."""
    rights = [(c[0], c[1] * a) for a, b, c in rows if b == 0 and a > 0]
    lefts = [(c[0], c[1] * -a) for a, b, c in rows if b == 0 and a < 0]
    right = [] if rights == [] else [(1, 0, least(*rights))]
    left = [] if lefts == [] else [(-1, 0, least(*lefts))]
    return right + left


def settled(rows):
    """Returns the canonical rows of the points that keep some rows, or None if there is no such point.

    A row may have two zeros here: then either all points keep it or none.
    """
    if any([a == 0 and b == 0 and c[0] < 0 for a, b, c in rows]):
        return None
    tops = envelope([row for row in rows if row[1] > 0])
    floors = envelope([row for row in rows if row[1] < 0])
    return canonical(tops + floors + tight_walls(rows))


def first_stretch(sides):
    """Returns the stretch of the first numbers of a figure with a point, by its canonical rows."""
    return first_numbers(sides, [row for row in sides if row[1] > 0], [row for row in sides if row[1] < 0])
