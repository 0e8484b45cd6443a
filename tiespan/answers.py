"""Answers to lines: what a board is asked or told to do by a line, and what it answers."""

from tiespan.lots import Lot
from tiespan.pages import end_text
from tiespan.ratios import ratio_text, read_ratio
from tiespan.sums import read_terms
from tiespan.ties import ascending_names, names_in, read_ties, tie_text

DONE = "ok"
UNCLEAR = "what"
# The number of parts of each line. In some lines the last part is a text: it may have spaces, or nothing in it.
LENGTHS = {
    "tie": 3, "wish": 4, "drop": 2, "first": 2, "undo": 1, "redo": 1,
    "labels": 1, "possible": 1, "stretch": 2, "value": 2, "shadow": 3, "holds": 2,
}
WITH_TEXT = ("tie", "wish", "holds")


def parts_of(line):
    """Returns the list of the parts of a line, or an empty one if it has no listed form."""
    word = line.partition(" ")[0]
    many = LENGTHS.get(word, 0)
    parts = line.split(" ", many - 1) if word in WITH_TEXT else line.split(" ")
    words = parts[:-1] if word in WITH_TEXT else parts
    return parts if len(parts) == many and "" not in words else []


def tie_answer(board, label, text):
    """Adds a tie."""
    ties = read_ties(text)
    if len(ties) > 1:
        return UNCLEAR
    board.apply(("tie", label, ties[0]))
    return DONE


def wish_answer(board, label, target, text):
    """Adds a wish."""
    terms = read_terms(text)
    board.apply(("wish", label, terms, read_ratio(target)))
    return DONE


def drop_answer(board, label):
    """Removes a tie or a wish."""
    board.apply(("drop", label))
    return DONE


def first_answer(board, label):
    """Moves a wish ahead of all others."""
    board.apply(("first", label))
    return DONE


def undo_answer(board):
    """Undoes a step."""
    board.undo()
    return DONE


def redo_answer(board):
    """Does a step again that was undone."""
    board.redo()
    return DONE


def labels_answer(board):
    """Returns all labels."""
    labels = board.labels()
    return " ".join(labels) if labels != [] else "none"


def possible_answer(board):
    """Returns whether the ties have a solution."""
    return "yes" if board.lot().possible else "no"


def stretch_answer(board, name):
    """Returns the least and the greatest number of a name."""
    stretch = board.lot().stretch(name)
    return "none" if stretch is None else " ".join([end_text(end) for end in stretch])


def value_answer(board, name):
    """Returns the value of a name in the solution by the wishes."""
    board.lot().known(name)
    return ratio_text(board.solution()[name])


def row_text(one, other, row):
    """Returns the text of a row of the shadow of two names as a tie."""
    a, b, bound = row
    rates = {one: (a, 1), other: (b, 1)}
    terms = tuple([(name, rates[name]) for name in ascending_names(rates)])
    return tie_text((terms, bound))


def shadow_answer(board, one, other):
    """Returns the rows of the shadow of two names."""
    figure = board.shadow(one, other)
    if len(figure) == 0:
        return "all" if figure else "none"
    return "; ".join([row_text(one, other, row) for row in figure.rows()])


def holds_answer(board, text):
    """Returns whether the ties of a text follow from the lot."""
    ties = read_ties(text)
    lot = board.lot()
    for name in names_in(ties[0]):
        lot.known(name)
    return "yes" if lot <= Lot(lot.names(), ties) else "no"


ANSWERS = {
    "tie": tie_answer, "wish": wish_answer, "drop": drop_answer, "first": first_answer, "undo": undo_answer,
    "redo": redo_answer, "labels": labels_answer, "possible": possible_answer, "stretch": stretch_answer,
    "value": value_answer, "shadow": shadow_answer, "holds": holds_answer,
}


def answer_to(board, line):
    """Does what a line tells a board to do, and returns what the board answers."""
    parts = parts_of(line)
    if parts == []:
        return UNCLEAR
    word, *rest = parts
    action = ANSWERS[word]
    return action(board, *rest)
