"""A second, plain way to work out lots: elimination of one name after another over all ties, with Python's fractions.

A tie is held as a pair of a dict of rates, all of them other than 0, and a bound. Names may be any strings, and a tie
may have any number of names.
"""

import random
from fractions import Fraction
from itertools import combinations

from tests import plain
from tests.plain import pair
from tiespan.lots import Lot


ANYTHING = [None, True, False, 0, 1, -1, 10 ** 29, "", "x <= 1", (), (1,), (1, 2), (None, None), [], [1], [[]], ([], ()), "z"]


def bare(ties):
    """Returns the plain form of ties."""
    return [({name: Fraction(*rate) for name, rate in terms}, Fraction(*bound)) for terms, bound in ties]


def summed(one, share, other, more):
    """Returns the sum of two plain ties, each times its share."""
    rates = {name: share * rate for name, rate in one[0].items()}
    for name, rate in other[0].items():
        rates[name] = rates.get(name, 0) + more * rate
    return {name: rate for name, rate in rates.items() if rate != 0}, share * one[1] + more * other[1]


def tight(ties):
    """Returns ties without those that are looser than one with the same rates, up to a factor."""
    kept = {}
    for rates, bound in ties:
        scale = abs(rates[min(rates)]) if rates else 1
        key = tuple(sorted((name, rate / scale) for name, rate in rates.items()))
        if key not in kept or bound / scale < kept[key]:
            kept[key] = bound / scale
    return [(dict(key), bound) for key, bound in kept.items()]


def without(ties, name):
    """Returns what follows from ties without a name."""
    above = [tie for tie in ties if tie[0].get(name, 0) > 0]
    below = [tie for tie in ties if tie[0].get(name, 0) < 0]
    found = [tie for tie in ties if name not in tie[0]]
    found += [summed(one, -other[0][name], other, one[0][name]) for one in above for other in below]
    return tight(found)


def left_for(ties, names):
    """Returns what follows from ties for some names alone."""
    ties = tight(ties)
    while True:
        others = sorted(set(name for rates, bound in ties for name in rates if name not in names))
        if not others:
            return ties
        ties = without(ties, min(others, key=lambda name: sum(name in rates for rates, bound in ties)))


def possible(ties):
    return all(bound >= 0 for rates, bound in left_for(ties, []))


def stretch(ties, name):
    """Returns the least and the greatest number of a name, or None without a solution."""
    ties = left_for(ties, [name])
    if not possible(ties):
        return None
    tops = [bound / rates[name] for rates, bound in ties if rates and rates[name] > 0]
    lows = [bound / rates[name] for rates, bound in ties if rates and rates[name] < 0]
    return max(lows, default=None), min(tops, default=None)


def shadow(ties, one, other):
    """Returns the canonical rows of the shadow of two names, or None without a solution."""
    ties = left_for(ties, [one, other])
    if not possible(ties):
        return None
    rows = [plain.whole_row(rates.get(one, 0), rates.get(other, 0), bound) for rates, bound in ties if rates]
    return plain.canonical(rows)


def tops_of(ties, rates):
    """Returns the least and the greatest value of a sum, or None without a solution."""
    less = {name: -rate for name, rate in rates.items()}
    return stretch(ties + [({**rates, "sum": Fraction(-1)}, Fraction(0)), ({**less, "sum": Fraction(1)}, Fraction(0))], "sum")


def follows(ties, tie):
    if not possible(ties):
        return True
    top = tops_of(ties, tie[0])[1]
    return top is not None and top <= tie[1]


def at_value(rates, value):
    """Returns the two ties by which a sum has a value."""
    return [(dict(rates), value), ({name: -rate for name, rate in rates.items()}, -value)]


def clamped(ends, target):
    low, top = ends
    if low is not None and target < low:
        return low
    return top if top is not None and top < target else target


def solution(ties, names, targets):
    """Returns the values of names, ascending, each one as near to its target as those before allow, or None."""
    if not possible(ties):
        return None
    values = {}
    for name in sorted(names):
        values[name] = clamped(stretch(ties, name), targets.get(name, Fraction(0)))
        ties = ties + at_value({name: Fraction(1)}, values[name])
    return values


def granted(ties, wishes):
    """Returns the values that plain wishes reach, or None without a solution."""
    if not possible(ties):
        return None
    values = []
    for rates, target in wishes:
        values.append(clamped(tops_of(ties, rates), target))
        ties = ties + at_value(rates, values[-1])
    return values


def written(name, rate, bound):
    return (((name, (rate, 1)),), pair(Fraction(bound)))


def closed(names, ends, rows):
    """Returns the ties of a closed lot; `ends` and `rows` tell stretches and canonical rows (None for no solution)."""
    names = sorted(set(names))
    if any(ends(name) is None for name in names):
        return [written(names[0], 1, 0), written(names[0], -1, -1)]
    ties = []
    for name in names:
        low, top = ends(name)
        ties += [] if top is None else [written(name, 1, top)]
        ties += [] if low is None else [written(name, -1, -low)]
    for one, other in combinations(names, 2):
        ties += [(((one, (a, 1)), (other, (b, 1))), c) for a, b, c in rows(one, other) if a and b]
    return ties


def limited(ties, names):
    return closed(names, lambda name: stretch(ties, name), lambda one, other: shadow(ties, one, other))


def wider(one, other):
    """Returns the least stretch that contains two stretches."""
    if one is None or other is None:
        return one or other
    low = None if None in (one[0], other[0]) else min(one[0], other[0])
    return low, None if None in (one[1], other[1]) else max(one[1], other[1])


def joined(names, ties, others):
    """Returns the ties of the round."""
    def rows(one, other):
        first, second = shadow(ties, one, other), shadow(others, one, other)
        return first or second or [] if first is None or second is None else plain.joined(first, second)
    return closed(names, lambda name: wider(stretch(ties, name), stretch(others, name)), rows)


def renamed(ties, table):
    return [({table.get(name, name): rate for name, rate in rates.items()}, bound) for rates, bound in ties]


def composed(names, ties, others):
    """Returns the ties of the closed lot of one step and then another one."""
    first = renamed(ties, {name + "'": name + " between" for name in names})
    second = renamed(others, {name: name + " between" for name in names})
    return limited(first + second, list(names) + [name + "'" for name in names])


def moved(names, ties, start):
    """Returns the ties of the closed lot of the values to which a step leads from solutions of a lot."""
    old = {name: name + " before" for name in names}
    new = {name + "'": name for name in names}
    return limited(renamed(start, old) + renamed(ties, {**old, **new}), names)


KINDS = {
    "no names": ([], ""),
    "one name without ties": (["x"], ""),
    "no ties": (["x", "y", "z"], ""),
    "one tie": (["x", "y", "z"], "2*x - 1/2*y <= 3"),
    "one tie of one name": (["x", "y"], "-3*y <= 2"),
    "equal ties": (["x", "y"], "x + y <= 1; x + y <= 1; 2*x + 2*y <= 2"),
    "ties of one name": (["x", "y", "z"], "x <= 3; x >= 1; y <= 2; z >= 1/2; x <= 2"),
    "a ring that tightens": (["x", "y"], "x <= 1/2*y + 1; y <= 1/2*x + 1"),
    "a ring of three": (["x", "y", "z"], "x <= 1/2*y + 1; y <= 2/3*z; z <= 3/2*x + 1"),
    "a ring whose product is 1": (["x", "y", "z"], "x <= 2*y + 1; y <= 1/2*z - 1; z <= x + 1"),
    "a ring whose product is 1 that is impossible": (["x", "y"], "x <= 2*y - 1; y <= 1/2*x"),
    "a ring whose product is above 1": (["x", "y"], "x <= 2*y - 1; y <= x - 2"),
    "two rings against each other": (["x", "y"], "x <= 1/2*y + 1; y <= 1/2*x + 1; x >= 1/2*y + 2; y >= 1/2*x + 1"),
    "a single point": (["x", "y"], "x + y = 1; x - y = 1/3"),
    "a single point of three": (["x", "y", "z"], "x <= y; y <= z; z <= x; x + y >= 2; y + z <= 2"),
    "a ray": (["x", "y"], "x = 2*y + 1; x >= 3"),
    "a line": (["x", "y", "z"], "x = 2*y + 1; y = z - 1"),
    "a line beside a free name": (["x", "y", "z"], "x + y = 1/2"),
    "a level line": (["x", "y"], "y = 2/3"),
    "three ties that are impossible": (["x", "y"], "x + y <= 1; x - y <= 1; x >= 2; y <= 5"),
    "four ties that are impossible": (["x", "y", "z"], "x <= y - 1; y <= z - 1; z <= 2*x; x <= 1"),
    "two ties that are impossible": (["x", "y"], "x <= 1; x >= 2; y <= 0"),
    "impossible beside a free name": (["x", "y", "z"], "y + z <= 0; y + z >= 1/7"),
    "nearly possible": (["x", "y"], "x + y <= 1; x + y >= 1; x - y = 0; x <= 1/3"),
    "an apostrophe": (["x", "x'"], "x' = 2*x + 1; x >= 0; x <= 3"),
}


def kinds():
    """Returns the dict of the lots of all kinds."""
    return {kind: Lot.read(names, text) for kind, (names, text) in KINDS.items()}


RATES = [(1, 1), (-1, 1), (1, 1), (-1, 1), (2, 1), (-2, 1), (1, 2), (-1, 2), (3, 1), (-2, 3)]
BOUNDS = [(-2, 1), (-1, 1), (-1, 2), (0, 1), (0, 1), (1, 3), (1, 1), (2, 1), (3, 1)]


def some_tie(dice, names, values):
    """Returns a tie that holds at some values with equality, or nearly so, or has any bound."""
    chosen = sorted(dice.sample(names, min(len(names), dice.choice([1, 2, 2, 2]))))
    terms = tuple((name, dice.choice(RATES)) for name in chosen)
    at = sum(Fraction(*rate) * values[name] for name, rate in terms)
    way = dice.randint(0, 4)
    if way == 0:
        return terms, dice.choice(BOUNDS)
    return terms, pair(Fraction(at) + (0 if way < 3 else abs(Fraction(*dice.choice(BOUNDS)))))


def opposite(tie):
    terms, bound = tie
    return tuple((name, (-rate[0], rate[1])) for name, rate in terms), (-bound[0], bound[1])


def some_ties(dice, names, most):
    values = {name: dice.randint(-2, 2) for name in names}
    ties = []
    for turn in range(dice.randint(0, most) if names else 0):
        again = ties and dice.randint(0, 4) == 0
        ties.append(opposite(dice.choice(ties)) if again else some_tie(dice, names, values))
    return ties


def many_lots(seed, count, many, most):
    """Returns a list of lots of some number of names and up to some number of ties."""
    dice = random.Random(seed)
    names = ["x", "y", "z", "w", "v", "u"][:many]
    return [Lot(names, some_ties(dice, names, most)) for turn in range(count)]
