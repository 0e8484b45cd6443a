"""Steps: ties between old values of names and new ones, which stand under the names with an apostrophe."""

from tiespan.errors import InvalidName, InvalidTie, InvalidTimes, NamesDiffer
from tiespan.lots import Lot, first_wrong_tie
from tiespan.ratios import is_whole
from tiespan.ties import is_name
from tiespan.webs import ascending, closed_ties, closed_web, web_for, web_of

MOST_TIMES = 8


def primed(names):
    """Returns the names of the new values."""
    return [name + "'" for name in names]


def between_names(names):
    """Returns the names of values between, which no tie of a lot can have."""
    return [name + "''" for name in names]


def table(names, others):
    """Returns the dict from names to as many other names."""
    return {name: others[at] for at, name in enumerate(names)}


def renamed(ties, names):
    """Returns the list of ties with other names for those in a dict."""
    found = []
    for terms, bound in ties:
        pairs = [(names.get(name, name), rate) for name, rate in terms]
        if len(pairs) == 2 and pairs[1][0] < pairs[0][0]:
            pairs = [pairs[1], pairs[0]]
        found.append((tuple(pairs), bound))
    return found


def left_ties(names, ties, kept):
    """Returns the ties of the closed lot that ties between names leave for some of the names."""
    web = web_for(web_of(ascending(names), ties), kept)
    return closed_ties(kept, closed_web(web))


class Step:
    """What leads from values before to values after. A step does not change."""

    MOST = 3

    def __init__(self, names, ties=()):
        for at, name in enumerate(names):
            if not is_name(name) or name.endswith("'") or name in names[:at] or at >= Step.MOST:
                raise InvalidName(name)
        wrong = first_wrong_tie(ties, list(names) + primed(names))
        if wrong is not None:
            raise InvalidTie(wrong)
        self.unknowns = tuple(ascending(names))
        self.bonds = tuple(ties)

    @staticmethod
    def stay(names):
        """Returns the step in which all values stay."""
        step = Step(names)
        ties = []
        for name in step.unknowns:
            ties.append((((name, (1, 1)), (name + "'", (-1, 1))), (0, 1)))
            ties.append((((name, (-1, 1)), (name + "'", (1, 1))), (0, 1)))
        return Step(names, ties)

    def names(self):
        """Returns the list of the names, ascending."""
        return list(self.unknowns)

    def ties(self):
        """Returns the list of the ties."""
        return list(self.bonds)

    def everyone(self):
        """Returns the list of the names of old and of new values."""
        return list(self.unknowns) + primed(self.unknowns)

    def lot(self):
        """Returns the lot of old and new values."""
        return Lot(self.everyone(), self.bonds)

    def closed(self):
        """Returns the step with the ties of the closed lot."""
        return Step(self.unknowns, left_ties(self.everyone(), self.bonds, self.everyone()))

    def allows(self, before, after):
        """Returns whether the step leads from values before to values after."""
        names = list(self.unknowns)
        if ascending(before) != names or ascending(after) != names:
            return False
        values = dict(before)
        for name in names:
            values[name + "'"] = after[name]
        return self.lot().holds(values)

    def repeated(self, times):
        """Returns the step that does this one so many times."""
        if not is_whole(times) or not 0 <= times <= MOST_TIMES:
            raise InvalidTimes(times)
        if times == 0:
            return Step.stay(self.unknowns)
        if times == 1:
            return self.closed()
        half = self.repeated(times // 2)
        return half * half * self if times & 1 == 1 else half * half

    def back(self):
        """Returns the step with exchanged old and new values."""
        names = self.everyone()
        exchanged = table(names, primed(self.unknowns) + list(self.unknowns))
        return Step(self.unknowns, renamed(self.bonds, exchanged))

    def moved(self, lot):
        """Returns the closed lot of the values to which the step leads from solutions of a lot."""
        names = list(self.unknowns)
        if lot.names() != names:
            raise NamesDiffer()
        middle = between_names(names)
        before = renamed(lot.ties(), table(names, middle))
        ties = before + renamed(self.bonds, table(self.everyone(), middle + names))
        return Lot(names, left_ties(middle + names, ties, names))

    def __mul__(self, other):
        if self.unknowns != other.unknowns:
            raise NamesDiffer()
        names = list(self.unknowns)
        middle = between_names(names)
        first = renamed(self.bonds, table(primed(names), middle))
        second = renamed(other.bonds, table(names, middle))
        kept = self.everyone()
        return Step(names, left_ties(kept + middle, first + second, kept))

    def __eq__(self, other):
        return isinstance(other, Step) and self.unknowns == other.unknowns and self.bonds == other.bonds

    def __len__(self):
        return len(self.bonds)

    def __repr__(self):
        return f"Step({len(self.unknowns)} names, {len(self.bonds)} ties)"
