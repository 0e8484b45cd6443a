"""Layouts: wishes for the values of terms, granted in order as far as the ties of a lot and the wishes before allow."""

from tiespan.errors import Impossible, InvalidWish
from tiespan.ratios import ZERO, is_ratio, is_whole, subtract
from tiespan.ties import are_terms
from tiespan.values import nearest, negative, reach_of, solution_of
from tiespan.webs import tied, web_for


def is_wish(thing, names):
    """Returns whether a value is a wish for some names."""
    if not isinstance(thing, tuple) or len(thing) != 2:
        return False
    terms, target = thing
    return are_terms(terms) and all([name in names for name, rate in terms]) and is_ratio(target)


def check_wishes(lot, wishes):
    """Checks that all items are wishes for names of a lot."""
    names = lot.names()
    for at, wish in enumerate(wishes):
        if not is_wish(wish, names):
            raise InvalidWish(at)


def held_at(terms, value):
    """Returns the ties that allow terms no other value."""
    return [(terms, value), (negative(terms), subtract(ZERO, value))]


def settle(lot, wishes):
    """Returns the list of the values that valid wishes reach, and the web that allows them no others."""
    web = lot.web()
    if web_for(web, []) is None:
        raise Impossible()
    values = []
    for terms, target in wishes:
        left = web_for(web, [name for name, rate in terms])
        value = nearest(reach_of(left, terms), target)
        values.append(value)
        web = tied(web, held_at(terms, value))
    return values, web


def granted(lot, wishes):
    """Returns the list of the values that wishes reach."""
    check_wishes(lot, wishes)
    return settle(lot, wishes)[0]


class Layout:
    """A lot and wishes in order, which can be changed."""

    MOST = 8

    def __init__(self, lot, *wishes):
        check_wishes(lot, wishes)
        if len(wishes) > Layout.MOST:
            raise InvalidWish(Layout.MOST)
        self.ground = lot
        self.asked = list(wishes)

    def lot(self):
        """Returns the lot."""
        return self.ground

    def wishes(self):
        """Returns the list of the wishes."""
        return list(self.asked)

    def ask(self, wish):
        """Adds a wish behind the others."""
        many = len(self.asked)
        if many >= Layout.MOST or not is_wish(wish, self.ground.names()):
            raise InvalidWish(many)
        self.asked.append(wish)

    def present(self, at):
        """Checks that there is a wish with an index."""
        if not is_whole(at) or not 0 <= at < len(self.asked):
            raise InvalidWish(at)

    def drop(self, at):
        """Removes a wish."""
        self.present(at)
        self.asked.pop(at)

    def move(self, at, *, to=0):
        """Moves a wish so that it has another index."""
        self.present(at)
        self.present(to)
        self.asked.insert(to, self.asked.pop(at))

    def reached(self):
        """Gives the pairs of a wish and the value that it reaches."""
        wishes = list(self.asked)
        values = granted(self.ground, wishes)
        for at, wish in enumerate(wishes):
            yield (wish, values[at])

    def solution(self):
        """Returns a solution with the values that the wishes reach."""
        return solution_of(settle(self.ground, self.asked)[1], {})

    def __len__(self):
        return len(self.asked)

    def __repr__(self):
        return f"Layout({len(self.asked)} wishes)"
