"""Sorting by places, which are pairs of numbers: Python itself cannot order fractions that are pairs."""

from tiespan.ratios import is_less


def precedes(one, other):
    """Returns whether the first two numbers of a tuple are less than those of another one."""
    if is_less(one[0], other[0]):
        return True
    return not is_less(other[0], one[0]) and is_less(one[1], other[1])


def merged(ones, others):
    """Returns two lists, each of them ascending, as one; of equal places only one stays."""
    found = []
    at = 0
    for one in ones:
        while at < len(others) and precedes(others[at], one):
            found.append(others[at])
            at += 1
        if at < len(others) and not precedes(one, others[at]):
            at += 1
        found.append(one)
    return found + others[at:]


def in_order(things):
    """Returns a list of tuples, ascending by their first two numbers; of equal places only one stays."""
    if len(things) < 2:
        return list(things)
    middle = len(things) // 2
    return merged(in_order(things[:middle]), in_order(things[middle:]))
