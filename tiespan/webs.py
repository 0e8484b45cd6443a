"""Webs: what is known of names one by one and two by two, and how names are taken out of it and put back.

A web is a pair of dicts: the stretches of its names, which are ascending, and the canonical rows of the plane of each
pair of them. A plane also has what the stretches say. No web at all (None) stands for ties without a solution.

Taking out a name joins each row in which its rate is above 0 with each one in which it is below 0. What is left then
has the same solutions for the other names, so the web that is left of two names has their shadow.
"""

from tiespan.hulls import joint_rows
from tiespan.planes import first_stretch, frame, resolved, settled, turned_rows, walls
from tiespan.ratios import greatest, is_less, least
from tiespan.sides import canonical
from tiespan.ties import names_in, reduced


def ascending(names):
    """Returns a list of names, each of them once, in ascending order."""
    found = []
    for name in sorted([str(one) for one in names]):
        if name not in found:
            found.append(name)
    return found


def pairs_of(names):
    """Returns the list of the pairs of ascending names, ascending."""
    return [(one, other) for at, one in enumerate(names) for other in names[at + 1:]]


def grouped(ties):
    """Returns a dict from the names of ties to the list of their reduced ties."""
    found = {}
    for tie in ties:
        key = tuple(names_in(tie))
        found[key] = found.get(key, []) + [reduced(tie)]
    return found


def own_stretch(ties):
    """Returns the stretch that reduced ties of one name leave."""
    tops = [bound for terms, bound in ties if terms[0][1][0] > 0]
    lows = [(-bound[0], bound[1]) for terms, bound in ties if terms[0][1][0] < 0]
    return greatest(*lows), least(*tops)


def rows_of(ties):
    """Returns rows for reduced ties of the same two names."""
    return [(terms[0][1][0], terms[1][1][0], bound) for terms, bound in ties]


def narrowed(one, other):
    """Returns the stretch of the numbers that two stretches have in common."""
    return greatest(one[0], other[0]), least(one[1], other[1])


def is_empty(stretch):
    """Returns whether a stretch has no number."""
    low, top = stretch
    return low is not None and top is not None and is_less(top, low)


def tied(web, ties):
    """Returns a web with further ties between its names, or None if it has no solution at first sight."""
    groups = grouped(ties)
    stretches = {}
    for name in web[0]:
        stretches[name] = narrowed(web[0][name], own_stretch(groups.get((name,), [])))
        if is_empty(stretches[name]):
            return None
    planes = {}
    for one, other in web[1]:
        sides = web[1][(one, other)]
        rows = rows_of(groups.get((one, other), []))
        if rows != [] or stretches[one] != web[0][one] or stretches[other] != web[0][other]:
            sides = settled(sides + rows + frame(stretches[one], stretches[other]))
            if sides is None:
                return None
        planes[(one, other)] = sides
    return stretches, planes


def web_of(names, ties):
    """Returns the web of ascending names and ties between them, or None if it has no solution at first sight."""
    free = {name: (None, None) for name in names}
    return tied((free, {pair: [] for pair in pairs_of(names)}), ties)


def between(web, one, other):
    """Returns the rows of the plane of two names, with the first one on the first axis."""
    planes = web[1]
    return planes[(one, other)] if one < other else turned_rows(planes[(other, one)])


def without(web, name):
    """Returns a web without a name that has the same solutions for the other names, or None if there is none."""
    stretches = {}
    for other in web[0]:
        if other != name:
            stretches[other] = first_stretch(between(web, other, name))
    planes = {}
    for one, other in pairs_of(list(stretches)):
        rows = between(web, one, other) + resolved(between(web, one, name), between(web, name, other))
        sides = settled(rows + frame(stretches[one], stretches[other]))
        if sides is None:
            return None
        planes[(one, other)] = sides
    return stretches, planes


def trail_of(web, names):
    """Returns the list of a web and the webs that are left behind each of some names, or None without a solution."""
    if web is None:
        return None
    trail = [web]
    for name in names:
        web = without(web, name)
        if web is None:
            return None
        trail.append(web)
    return trail


def web_for(web, names):
    """Returns the web that is left for some names of a web, or None without a solution."""
    trail = trail_of(web, [name for name in web[0] if name not in names]) if web is not None else None
    return trail[-1] if trail is not None else None


def near_rows(web, closed, name, other):
    """Returns the rows of a name of a web and of a name of the closed web of the names behind it.

    What follows for both leads over one third name behind or over none: a longer way says no more, because the closed
    web shows all that follows for the names behind.
    """
    rows = between(web, name, other) + turned_rows(walls(closed[0][other]))
    for third in closed[0]:
        if third != other:
            rows = rows + resolved(between(web, name, third), between(closed, third, other))
    return settled(rows)


def put_back(web, closed, name):
    """Returns the closed web for the first name of a web and the closed web of the names behind it."""
    stretches, planes = closed
    stretch = web[0][name]
    near = {}
    for other in stretches:
        near[other] = near_rows(web, closed, name, other)
        stretch = narrowed(stretch, first_stretch(near[other]))
    found = {}
    for other in stretches:
        found[(name, other)] = settled(near[other] + walls(stretch))
    return {name: stretch, **stretches}, {**found, **planes}


def closed_web(web):
    """Returns the web with the stretches and the shadows of the solutions of a web, or None without a solution."""
    names = list(web[0]) if web is not None else []
    trail = trail_of(web, names[:-1])
    if trail is None:
        return None
    closed = trail[-1]
    for at in range(len(trail) - 2, -1, -1):
        closed = put_back(trail[at], closed, names[at])
    return closed


def joined_web(one, other):
    """Returns the closed web whose shadows and stretches are the least ones that contain those of two closed webs."""
    if one is None or other is None:
        return one or other
    stretches = {}
    for name in one[0]:
        low = [web[0][name][0] for web in (one, other)]
        top = [web[0][name][1] for web in (one, other)]
        stretches[name] = (None if None in low else least(*low), None if None in top else greatest(*top))
    planes = {}
    for pair in one[1]:
        planes[pair] = canonical(joint_rows(one[1][pair], other[1][pair]))
    return stretches, planes


def wall_ties(name, stretch):
    """Returns the ties of a stretch."""
    low, top = stretch
    above = [] if top is None else [(((name, (1, 1)),), top)]
    below = [] if low is None else [(((name, (-1, 1)),), (-low[0], low[1]))]
    return above + below


def pair_ties(pair, sides):
    """Returns the ties of two names for the rows of their plane in which both have a rate."""
    one, other = pair
    return [(((one, (a, 1)), (other, (b, 1))), c) for a, b, c in sides if a != 0 and b != 0]


def closed_ties(names, web):
    """Returns the ties of the closed lot of some names, in any order, for their closed web."""
    ordered = ascending(names)
    if web is None:
        return [(((name, (rate, 1)),), (bound, 1)) for name in ordered[:1] for rate, bound in ((1, 0), (-1, -1))]
    ties = []
    for name in ordered:
        ties.extend(wall_ties(name, web[0][name]))
    for pair in pairs_of(ordered):
        ties.extend(pair_ties(pair, web[1][pair]))
    return ties
