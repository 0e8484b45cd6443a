"""Commands: what makes them valid, and what they make of a state.

A state is a pair: a dict of ties by labels, and a list of wishes, which are triples (label, terms, target). A state
does not change: each command makes a new one, so that states can stand in histories.
"""

from tiespan.errors import CapacityExceeded, DuplicateLabel, InvalidCommand, InvalidName, InvalidTie, InvalidWish
from tiespan.errors import UnknownLabel
from tiespan.layouts import Layout, is_wish
from tiespan.lots import first_wrong_tie

LENGTHS = {"tie": 3, "wish": 4, "first": 2, "drop": 2}
MOST_LETTERS = 8


def check_commands(commands):
    """Checks that all tuples begin with the word of a command and have its length."""
    for command in commands:
        first = command[0] if len(command) > 0 else None
        if not isinstance(first, str) or LENGTHS.get(first) != len(command):
            raise InvalidCommand(first)


def is_label(thing):
    """Returns whether a value can be a label."""
    if not isinstance(thing, str) or len(thing) > MOST_LETTERS:
        return False
    return thing.isascii() and thing.isalpha() and thing.islower()


def tie_labels(state):
    """Returns the list of the labels of ties, ascending."""
    return sorted([str(label) for label in state[0]])


def wish_labels(state):
    """Returns the list of the labels of wishes, in the order of the wishes."""
    return [wish[0] for wish in state[1]]


def check_new_label(state, label):
    """Checks that something new can have a label."""
    if not is_label(label):
        raise InvalidName(label)
    if label in tie_labels(state) or label in wish_labels(state):
        raise DuplicateLabel(label)


def with_tie(state, names, limit, label, tie):
    """Returns a state with one tie more."""
    ties, wishes = state
    check_new_label(state, label)
    if len(ties) >= limit:
        raise CapacityExceeded(limit)
    if first_wrong_tie([tie], names) is not None:
        raise InvalidTie(len(ties))
    return {**ties, label: tie}, wishes


def with_wish(state, names, wish):
    """Returns a state with one wish more, behind the others."""
    ties, wishes = state
    label, terms, target = wish
    check_new_label(state, label)
    if len(wishes) >= Layout.MOST:
        raise CapacityExceeded(Layout.MOST)
    if not is_wish((terms, target), names):
        raise InvalidWish(len(wishes))
    return ties, wishes + [wish]


def with_first(state, label):
    """Returns a state with a wish moved ahead of all others."""
    ties, wishes = state
    if label not in wish_labels(state):
        raise UnknownLabel(label)
    chosen = [wish for wish in wishes if wish[0] == label]
    return ties, chosen + [wish for wish in wishes if wish[0] != label]


def dropped(state, label):
    """Returns a state from which the tie or the wish with a label is removed."""
    ties, wishes = state
    if label not in tie_labels(state) and label not in wish_labels(state):
        raise UnknownLabel(label)
    return {one: ties[one] for one in ties if one != label}, [wish for wish in wishes if wish[0] != label]


def carried_out(state, names, limit, command):
    """Returns the state behind a command, on a board with some names and a limit."""
    word = command[0]
    if word == "tie":
        return with_tie(state, names, limit, command[1], command[2])
    if word == "wish":
        return with_wish(state, names, command[1:])
    if word == "first":
        return with_first(state, command[1])
    return dropped(state, command[1])
