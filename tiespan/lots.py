"""Lots: names, ties between them, and what all solutions of these leave."""

from tiespan.errors import Impossible, InvalidName, InvalidTie, NamesDiffer, SameName, UnknownName
from tiespan.figures import Figure
from tiespan.ratios import is_less
from tiespan.ties import is_kept, is_name, is_tie, names_in, read_ties, tie_text
from tiespan.values import solution_of, top_of
from tiespan.webs import ascending, between, closed_ties, closed_web, joined_web, web_for, web_of


def first_wrong_name(names):
    """Returns the index of the first string that is no name or repeats one, or None if there is none."""
    for at, name in enumerate(names):
        if not is_name(name) or name in names[:at]:
            return at
    return None


def first_wrong_tie(ties, names):
    """Returns the index of the first item that is no tie between some names, or None if there is none."""
    for at, tie in enumerate(ties):
        if not is_tie(tie) or not all([name in names for name in names_in(tie)]):
            return at
    return None


def follows_from(web, tie):
    """Returns whether a tie follows from the closed web of its names and others; all follows from no web."""
    if web is None:
        return True
    top = top_of(web, tie[0])
    return top is not None and not is_less(tie[1], top)


class Lot:
    """Names and ties between them. A lot does not change, so it only holds what it was given."""

    def __init__(self, names, ties=()):
        wrong = first_wrong_name(names)
        if wrong is not None:
            raise InvalidName(names[wrong])
        wrong = first_wrong_tie(ties, names)
        if wrong is not None:
            raise InvalidTie(wrong)
        self.unknowns = tuple(ascending(names))
        self.bonds = tuple(ties)

    @staticmethod
    def read(names, text):
        """Returns the lot with the ties of tie texts."""
        ties = []
        for part in text.split("; ") if text != "" else []:
            ties.extend(read_ties(part))
        return Lot(names, ties)

    def names(self):
        """Returns the list of the names, ascending."""
        return list(self.unknowns)

    def ties(self):
        """Returns the list of the ties."""
        return list(self.bonds)

    def text(self):
        """Returns the texts of the ties."""
        return "; ".join([tie_text(tie) for tie in self.bonds])

    def web(self):
        """Returns the web of the ties, or None if these have no solution at first sight."""
        return web_of(self.unknowns, self.bonds)

    @property
    def possible(self):
        """Whether there is a solution."""
        return web_for(self.web(), []) is not None

    def holds(self, values):
        """Returns whether values for exactly the names are a solution."""
        if ascending(values) != list(self.unknowns):
            return False
        return all([is_kept(tie, values) for tie in self.bonds])

    def known(self, name):
        """Checks that a value is one of the names."""
        if name not in self.unknowns:
            raise UnknownName(name)

    def stretch(self, name):
        """Returns the stretch of a name, or None without a solution."""
        self.known(name)
        web = web_for(self.web(), [name])
        return web[0][name] if web is not None else None

    def shadow(self, one, other):
        """Returns the figure of the pairs of numbers that two names have in solutions."""
        self.known(one)
        self.known(other)
        if one == other:
            raise SameName(one)
        web = web_for(self.web(), [one, other])
        return Figure(between(web, one, other)) if web is not None else Figure.nothing()

    def limited(self, *names):
        """Returns the closed lot of some names."""
        for name in names:
            self.known(name)
        return Lot(ascending(names), closed_ties(names, closed_web(web_for(self.web(), names))))

    def closed(self):
        """Returns the closed lot of all names."""
        return Lot(self.unknowns, closed_ties(self.unknowns, closed_web(self.web())))

    def solution(self, **targets):
        """Returns the solution in which the names, ascending, get the nearest values to their targets, or to 0."""
        for name in targets:
            self.known(name)
        values = solution_of(self.web(), targets)
        if values is None:
            raise Impossible()
        return values

    def alike(self, other):
        """Checks that another lot has the same names."""
        if self.unknowns != other.unknowns:
            raise NamesDiffer()

    def __add__(self, other):
        self.alike(other)
        web = joined_web(closed_web(self.web()), closed_web(other.web()))
        return Lot(self.unknowns, closed_ties(self.unknowns, web))

    def __mul__(self, other):
        self.alike(other)
        return Lot(self.unknowns, self.bonds + other.bonds)

    def __le__(self, other):
        self.alike(other)
        web = closed_web(self.web())
        return all([follows_from(web, tie) for tie in other.bonds])

    def __eq__(self, other):
        return isinstance(other, Lot) and self.unknowns == other.unknowns and self.bonds == other.bonds

    def __len__(self):
        return len(self.bonds)

    def __repr__(self):
        return f"Lot({len(self.unknowns)} names, {len(self.bonds)} ties)"
