"""Boards: ties and wishes by labels, which commands change, with a history and with kept shadows."""

from tiespan.certificates import derive
from tiespan.commands import carried_out, check_commands, tie_labels, wish_labels
from tiespan.errors import Impossible, InvalidLimit, NothingLeft, NotImplied, UnknownLabel
from tiespan.layouts import Layout
from tiespan.lots import Lot
from tiespan.ratios import is_whole
from tiespan.webs import pairs_of


def lot_of(names, state):
    """Returns the lot of a board with some names in a state."""
    return Lot(names, [state[0][label] for label in tie_labels(state)])


def same_solutions(one, other):
    """Returns whether two lots with the same names have the same solutions."""
    return one == other or (one <= other and other <= one)


class Board:
    """Names, and ties and wishes by labels."""

    MOST = 40

    def __init__(self, names, *, limit=20):
        self.unknowns = tuple(Lot(names).names())
        if not is_whole(limit) or not 1 <= limit <= Board.MOST:
            raise InvalidLimit(limit)
        self.room = limit
        self.state = ({}, [])
        self.past = []
        self.coming = []
        self.figures = {}
        self.computed = 0
        self.working = False

    @classmethod
    def holding(cls, names, limit, state):
        """Returns a board in a state, without history; the state may have more ties than the limit."""
        board = cls(names, limit=limit)
        board.state = state
        return board

    @property
    def limit(self):
        """The number of ties from which on none can be added."""
        return self.room

    @limit.setter
    def limit(self, value):
        if not is_whole(value) or not 1 <= value <= Board.MOST or value < len(self):
            raise InvalidLimit(value)
        self.room = value

    def change_limit(self, value):
        """Assigns the limit."""
        self.limit = value

    @property
    def busy(self):
        """Whether commands are being applied."""
        return self.working

    @property
    def made(self):
        """The number of computed shadows."""
        return self.computed

    def turn_to(self, state):
        """Takes over a state; the shadows stay kept if the lot has the same solutions as before."""
        if len(self.figures) > 0 and not same_solutions(self.lot(), lot_of(self.unknowns, state)):
            self.figures = {}
        self.state = state

    def carry_out(self, commands, guarded):
        """Applies commands as one step; behind a guarded step the ties have a solution."""
        self.working = True
        try:
            check_commands(commands)
            state = self.state
            for command in commands:
                state = carried_out(state, self.unknowns, self.room, command)
            if guarded and not lot_of(self.unknowns, state).possible:
                raise Impossible()
            self.past.append(self.state)
            self.coming = []
            self.turn_to(state)
        finally:
            self.working = False

    def apply(self, *commands):
        """Applies commands as one step."""
        self.carry_out(commands, False)

    def undo(self):
        """Undoes a step."""
        if len(self.past) == 0:
            raise NothingLeft()
        self.coming.append(self.state)
        self.turn_to(self.past.pop())

    def redo(self):
        """Does a step again that was undone."""
        if len(self.coming) == 0:
            raise NothingLeft()
        self.past.append(self.state)
        self.turn_to(self.coming.pop())

    def history(self):
        """Returns the number of steps that can be undone and the number of those that can be redone."""
        return len(self.past), len(self.coming)

    def names(self):
        """Returns the list of the names, ascending."""
        return list(self.unknowns)

    def labels(self):
        """Returns the list of the labels of ties and wishes, ascending."""
        return sorted([str(label) for label in tie_labels(self.state) + wish_labels(self.state)])

    def ties(self):
        """Returns the list of pairs of a label and its tie, ascending."""
        return [(label, self.state[0][label]) for label in tie_labels(self.state)]

    def tie(self, label):
        """Returns the tie with a label."""
        if label not in tie_labels(self.state):
            raise UnknownLabel(label)
        return self.state[0][label]

    def wishes(self):
        """Returns the list of the triples (label, terms, target) of the wishes, in order."""
        return list(self.state[1])

    def lot(self):
        """Returns the lot, which has the ties in ascending order of their labels."""
        return lot_of(self.unknowns, self.state)

    def layout(self):
        """Returns the layout of the lot and the wishes."""
        wishes = [(terms, target) for label, terms, target in self.state[1]]
        return Layout(self.lot(), *wishes)

    def solution(self):
        """Returns the solution of the layout."""
        return self.layout().solution()

    def shadow(self, one, other):
        """Returns the figure of two names; what is computed is kept for both orders of the names."""
        if (one, other) not in list(self.figures):
            figure = self.lot().shadow(one, other)
            self.figures[(one, other)] = figure
            self.figures[(other, one)] = figure.turned()
            self.computed += 1
        return self.figures[(one, other)]

    def kept(self):
        """Returns the list of the pairs of names whose shadows are kept, each pair and the list ascending."""
        return [pair for pair in pairs_of(self.unknowns) if pair in self.figures]

    def verdict(self, tie):
        """Returns what shows that a tie follows from the lot, or a solution that does not keep it."""
        try:
            return "holds", derive(self.lot(), tie)
        except NotImplied as error:
            return "fails", error.answer

    def twin(self):
        """Returns an independent board that is like this one in all that it holds."""
        board = self.holding(self.unknowns, self.room, self.state)
        board.past = list(self.past)
        board.coming = list(self.coming)
        board.figures = {pair: self.figures[pair] for pair in self.figures}
        board.computed = self.computed
        return board

    def __contains__(self, label):
        return label in self.labels()

    def __len__(self):
        return len(self.state[0])

    def __repr__(self):
        return f"Board({len(self.state[0])} ties, {len(self.state[1])} wishes)"


class GuardedBoard(Board):
    """A board whose ties have a solution behind each step."""

    def __init__(self, names, *, limit=20):
        Board.__init__(self, names, limit=limit)

    def apply(self, *commands):
        """Applies commands as one step; raises Impossible if the ties behind all of them have no solution."""
        self.carry_out(commands, True)
