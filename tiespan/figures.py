"""Figures: sets of points of the plane that keep rows, which are inequalities with integers."""

from tiespan.errors import EmptyFigure, InvalidRow
from tiespan.hulls import corner_points, is_within, joint_rows, lies_within, reach, spots, turned_off
from tiespan.ratios import ZERO
from tiespan.sides import canonical, is_row, second_numbers


class Figure:
    """The set of all points (x, y) with a * x + b * y <= c for each of some rows (a, b, c)."""

    def __init__(self, rows=()):
        for at, row in enumerate(rows):
            if not is_row(row):
                raise InvalidRow(at)
        sides = canonical(rows)
        self.filled = sides is not None
        self.sides = tuple(sides) if sides is not None else ()

    @staticmethod
    def nothing():
        """Returns the figure without a point."""
        return Figure([(1, 0, (-1, 1)), (-1, 0, (0, 1))])

    @staticmethod
    def point(x, y):
        """Returns the figure of one point."""
        return Figure([(1, 0, x), (-1, 0, (-x[0], x[1])), (0, 1, y), (0, -1, (-y[0], y[1]))])

    def rows(self):
        """Returns the list of the canonical rows."""
        return list(self.sides)

    def corners(self):
        """Returns the list of the corners, ascending by the first number, then by the second one."""
        return corner_points(self.sides)

    def greatest(self, a, b):
        """Returns the greatest value of a * x + b * y, or None if there is none."""
        if not self.filled:
            raise EmptyFigure()
        return reach(spots(self.sides), turned_off(self.sides), a, b)

    def column(self, x):
        """Returns the stretch of the second numbers at a first number, or None if no point has this number."""
        low, top = second_numbers(self.sides, x)
        # If any point has this first number, so has the one at an end of the stretch, or at 0 if there is no end.
        inner = low or top or ZERO
        return (low, top) if (x, inner) in self else None

    def turned(self):
        """Returns the figure with exchanged axes."""
        return Figure([(b, a, c) for a, b, c in self.sides]) if self.filled else Figure.nothing()

    def __contains__(self, point):
        return self.filled and is_within(self.sides, point)

    def __mul__(self, other):
        if not self.filled or not other.filled:
            return Figure.nothing()
        return Figure(self.sides + other.sides)

    def __add__(self, other):
        if not self.filled:
            return other
        if not other.filled:
            return self
        return Figure(joint_rows(self.sides, other.sides))

    def __le__(self, other):
        if not self.filled:
            return True
        return other.filled and lies_within(self.sides, other.sides)

    def __eq__(self, other):
        return isinstance(other, Figure) and self.filled == other.filled and self.sides == other.sides

    def __bool__(self):
        return bool(self.filled)

    def __len__(self):
        return len(self.sides)

    def __repr__(self):
        return f"Figure({len(self.sides)} rows)"
