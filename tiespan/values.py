"""Values of names and of terms that the solutions of ties leave."""

from tiespan.hulls import reach, spots, turned_off
from tiespan.ratios import ZERO, divide, greatest, least, multiply
from tiespan.sides import second_numbers
from tiespan.ties import reduced
from tiespan.webs import between, narrowed, trail_of


def nearest(stretch, target):
    """Returns the number of a stretch that is nearest to a target."""
    low, top = stretch
    return greatest(low, least(top, target))


def open_stretch(web, name, values):
    """Returns the stretch that a web leaves to its last name, behind values for all the others."""
    stretch = web[0][name]
    for other in values:
        stretch = narrowed(stretch, second_numbers(between(web, other, name), values[other]))
    return stretch


def solution_of(web, targets):
    """Returns the solution of a web that is nearest to targets, name by name, or None without a solution."""
    names = list(web[0]) if web is not None else []
    trail = trail_of(web, names[::-1])
    if trail is None:
        return None
    values = {}
    for at, name in enumerate(names):
        stretch = open_stretch(trail[len(names) - 1 - at], name, values)
        values[name] = nearest(stretch, targets.get(name, ZERO))
    return values


def top_of(web, terms):
    """Returns the greatest value of terms, or None, by a web that shows what is left for their names."""
    whole = reduced((terms, ZERO))[0]
    scale = divide(terms[0][1], whole[0][1])
    if len(whole) == 1:
        name, rate = whole[0]
        end = web[0][name][1 if rate[0] > 0 else 0]
        return None if end is None else multiply(end, terms[0][1])
    (one, first), (other, second) = whole
    sides = between(web, one, other)
    top = reach(spots(sides), turned_off(sides), first[0], second[0])
    return None if top is None else multiply(top, scale)


def negative(terms):
    """Returns terms with the opposite rates."""
    return tuple([(name, (-rate[0], rate[1])) for name, rate in terms])


def reach_of(web, terms):
    """Returns the stretch of the values of terms, by a web that shows what is left for their names."""
    low = top_of(web, negative(terms))
    return None if low is None else (-low[0], low[1]), top_of(web, terms)
