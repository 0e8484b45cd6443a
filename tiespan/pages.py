"""Pages, which are the texts of boards, and the table of the stretches of a lot."""

from tiespan.boards import Board
from tiespan.errors import ParseError, TieError
from tiespan.ratios import ratio_text, read_ratio
from tiespan.ties import terms_text, tie_text
from tiespan.values import negative


def format_board(board):
    """Returns the page of a board."""
    lines = [" ".join(["names"] + board.names())]
    for label, tie in board.ties():
        lines.append(" ".join(["tie", label, tie_text(tie)]))
    for label, terms, target in board.wishes():
        lines.append(" ".join(["wish", label, ratio_text(target), terms_text(terms)]))
    return "\n".join(lines) + "\n"


def written_term(text):
    """Returns the name and the rate of a term with a text as pages have it."""
    rate, star, name = text.rpartition("*")
    if star == "*":
        return name, read_ratio(rate)
    return name.removeprefix("-"), (-1, 1) if name.startswith("-") else (1, 1)


def written_terms(text):
    """Returns the terms with a text as pages have it; the numbers may have any number of digits."""
    words = text.split(" ")
    first = written_term(words[0])
    if len(words) != 3:
        return (first,)
    second = written_term(words[2])
    return (first, second) if words[1] == "+" else (first, negative((second,))[0])


def board_of(line):
    """Returns the board of the first line of a page."""
    names = line.split(" ")[1:]
    return Board(names, limit=Board.MOST)


def command_of(line):
    """Returns the command for another line of a page."""
    word, blank, rest = line.partition(" ")
    label, blank, rest = rest.partition(" ")
    if word == "tie":
        terms, relation, bound = rest.rpartition(" <= ")
        return ("tie", label, (written_terms(terms), read_ratio(bound)))
    target, blank, terms = rest.partition(" ")
    return ("wish", label, written_terms(terms), read_ratio(target))


def parse_board(text):
    """Returns a board with a page, without history and kept shadows."""
    lines = text.split("\n")
    board = Board([], limit=Board.MOST)
    for at in range(len(lines) - 1):
        try:
            if at == 0:
                board = board_of(lines[0])
            else:
                board.apply(command_of(lines[at]))
        except TieError:
            raise ParseError(at)
        # A line that is not as pages have it, or not in its place, would be written otherwise.
        if format_board(board) != "\n".join(lines[:at + 1]) + "\n":
            raise ParseError(at)
    if len(lines) == 1 or lines[-1] != "":
        raise ParseError(len(lines) - 1)
    return Board.holding(board.names(), Board.MOST, board.state)


def end_text(number):
    """Returns the text of an end of a stretch, or `-` for one that does not exist."""
    return "-" if number is None else ratio_text(number)


def stretch_table(lot):
    """Returns a text with a line for each name of a lot and its stretch."""
    lines = []
    for name in lot.names():
        stretch = lot.stretch(name)
        low, top = ("none", "none") if stretch is None else (end_text(stretch[0]), end_text(stretch[1]))
        lines.append(name.ljust(8) + low.rjust(12) + top.rjust(12) + "\n")
    return "".join(lines)
