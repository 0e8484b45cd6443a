"""Desks: boards that are asked and told what to do by lines."""

from tiespan.answers import answer_to
from tiespan.boards import Board
from tiespan.errors import Missing, NothingLeft, TieError


class Desk:
    """A board that answers lines, and the log of these."""

    def __init__(self, board):
        self.served = board
        self.lines = []

    @classmethod
    def of(cls, *names):
        """Returns a desk of a new board with some names."""
        return cls(Board(names))

    def ask(self, line):
        """Returns the answer to a line."""
        try:
            answer = answer_to(self.served, line)
        except (TieError, Missing, NothingLeft) as error:
            answer = "error " + error.tag
        self.lines.append((line, answer))
        return answer

    def board(self):
        """Returns the board."""
        return self.served

    def log(self):
        """Returns the list of the pairs of a line and its answer."""
        return list(self.lines)

    def __call__(self, line):
        return self.ask(line)

    def __len__(self):
        return len(self.lines)
