"""A second, plain way to work out boards: a list of states, of which one is the present one.

A state is a pair of a dict of ties by labels and a list of wishes. Errors are told as pairs (class, argument).
"""

import random
import re
from fractions import Fraction
from math import gcd

from tests import plain_lots
from tests.plain import pair
from tests.plain_lots import ANYTHING, bare

LENGTHS = {"tie": 3, "wish": 4, "first": 2, "drop": 2}
WRONG_LABELS = ["", "A", "ab1", "a b", "a'", "abcdefghi", "a\n", "\u00e9", "\u00aa", None, True, False, 0, 7, 10 ** 29, (), ("a",), ["a"], [], ("a", "b")]
LABELS = ["a", "b", "c", "d", "e", "f", "lo", "lot", "top", "zz", "abcdefgh", "zzzzzzzz"]


def told(do):
    """Returns the class and the argument of the error that a call raises, or None."""
    try:
        do()
    except (ValueError, LookupError) as error:
        more = [vars(error)[name] for name in vars(error) if name != "tag"]
        return (error.tag, *more)
    return None


def is_fraction(thing):
    if type(thing) is not tuple or len(thing) != 2 or any(type(part) is not int for part in thing):
        return False
    return thing[1] > 0 and gcd(*thing) == 1


def are_terms(terms, names):
    if type(terms) is not tuple or len(terms) not in (1, 2) or any(type(term) is not tuple for term in terms):
        return False
    if any(len(term) != 2 or type(term[0]) is not str or term[0] not in names for term in terms):
        return False
    return all(is_fraction(term[1]) and term[1] != (0, 1) for term in terms) and (len(terms) == 1 or terms[0][0] < terms[1][0])


def is_pair_for(thing, names):
    """Returns whether a value is a tie, or a wish without its label, for some names."""
    return type(thing) is tuple and len(thing) == 2 and are_terms(thing[0], names) and is_fraction(thing[1])


def wrong_command(command):
    """Returns whether a tuple has another first element or another length."""
    return not command or type(command[0]) is not str or LENGTHS.get(command[0]) != len(command)


class PlainBoard:
    def __init__(self, names, limit=20, guarded=False):
        self.names = sorted(names)
        self.limit = limit
        self.guarded = guarded
        self.states = [({}, [])]
        self.at = 0
        self.shown = set()
        self.made = 0

    def ties(self):
        return self.states[self.at][0]

    def wishes(self):
        return self.states[self.at][1]

    def plain_ties(self):
        return bare([self.ties()[label] for label in sorted(self.ties())])

    def fault_of_label(self, label, ties, wishes):
        if type(label) is not str or not re.fullmatch("[a-z]{1,8}(?!\n)", label):
            return "InvalidName", label
        return ("DuplicateLabel", label) if label in ties or label in [wish[0] for wish in wishes] else None

    def do(self, command, ties, wishes):
        """Carries out one command, or returns its error."""
        word, label, *more = command
        asked = [wish for wish in wishes if wish[0] == label]
        if word in ("tie", "wish"):
            most, many = (self.limit, len(ties)) if word == "tie" else (8, len(wishes))
            fault = self.fault_of_label(label, ties, wishes)
            if fault:
                return fault
            if many >= most:
                return "CapacityExceeded", most
            if not is_pair_for(more[0] if word == "tie" else tuple(more), self.names):
                return ("InvalidTie" if word == "tie" else "InvalidWish"), many
            if word == "tie":
                ties[label] = more[0]
            else:
                wishes.append((label, *more))
            return None
        is_tie = type(label) is str and label in ties
        if not asked and (word == "first" or not is_tie):
            return "UnknownLabel", label
        if word == "first":
            wishes.remove(asked[0])
            wishes.insert(0, asked[0])
        elif asked:
            wishes.remove(asked[0])
        else:
            del ties[label]
        return None

    def apply(self, *commands):
        for command in commands:
            if wrong_command(command):
                return "InvalidCommand", command[0] if command else None
        ties, wishes = dict(self.ties()), list(self.wishes())
        for command in commands:
            fault = self.do(command, ties, wishes)
            if fault:
                return fault
        if self.guarded and not plain_lots.possible(bare(ties.values())):
            return ("Impossible",)
        self.states[self.at + 1:] = [(ties, wishes)]
        return self.go(1)

    def go(self, by):
        if not 0 <= self.at + by < len(self.states):
            return ("NothingLeft",)
        before = self.plain_ties()
        self.at += by
        behind = self.plain_ties()
        if self.shown and not self.same(before, behind):
            self.shown = set()
        return None

    def same(self, one, other):
        return all(plain_lots.follows(one, tie) for tie in other) and all(plain_lots.follows(other, tie) for tie in one)

    def undo(self):
        return self.go(-1)

    def redo(self):
        return self.go(1)

    def change_limit(self, value):
        if type(value) is not int or not 1 <= value <= 40 or value < len(self.ties()):
            return "InvalidLimit", value
        self.limit = value
        return None

    def shadow(self, one, other):
        for name in (one, other):
            if name not in self.names:
                return "UnknownName", name
        if one == other:
            return "SameName", one
        if tuple(sorted((one, other))) not in self.shown:
            self.shown.add(tuple(sorted((one, other))))
            self.made += 1
        return None

    def solution(self):
        """Returns the solution by the wishes, or None."""
        ties = self.plain_ties()
        values = plain_lots.granted(ties, bare([wish[1:] for wish in self.wishes()]))
        for wish, value in zip(self.wishes(), values or []):
            ties = ties + plain_lots.at_value(bare([wish[1:]])[0][0], value)
        found = plain_lots.solution(ties, self.names, {})
        return None if found is None else {name: pair(Fraction(found[name])) for name in found}

    def twin(self):
        other = PlainBoard(self.names, self.limit, self.guarded)
        other.states, other.at = [(dict(ties), list(wishes)) for ties, wishes in self.states], self.at
        other.shown, other.made = set(self.shown), self.made
        return other

    def whole(self):
        """Returns all that a board tells without working it out."""
        ties, wishes = self.ties(), self.wishes()
        return {
            "names": self.names, "labels": sorted([*ties, *[wish[0] for wish in wishes]]), "ties": [ties[label] for label in sorted(ties)],
            "wishes": wishes, "limit": self.limit, "history": (self.at, len(self.states) - 1 - self.at), "kept": sorted(self.shown),
            "made": self.made, "busy": False, "len": len(ties), "repr": f"Board({len(ties)} ties, {len(wishes)} wishes)",
        }


def whole(board):
    """Returns all that a board of the program tells without working it out."""
    ties = [board.tie(label) for label in board.labels() if label not in [wish[0] for wish in board.wishes()]]
    assert ties == board.lot().ties() and board.lot().names() == board.names()
    return {
        "names": board.names(), "labels": board.labels(), "ties": ties, "wishes": board.wishes(), "limit": board.limit,
        "history": board.history(), "kept": board.kept(), "made": board.made, "busy": board.busy, "len": len(board), "repr": repr(board),
    }


def some_label(dice, wanted):
    way = dice.randint(0, 11)
    if way == 0:
        return dice.choice(WRONG_LABELS)
    return dice.choice(wanted) if way < 10 and wanted else dice.choice(LABELS)


def some_command(dice, names, labels=()):
    """Returns a command that is good or wrong; `labels` are those that are taken."""
    if dice.randint(0, 29) == 0:
        return dice.choice([(), ("tie",), ("wish", "a"), ("drop", "a", "b"), ("first",), ("x",), (None,), (("tie",), "a"), (7, 8), ("", "a"),
                            ("tie", "a", None, None), (["drop"], "a"), (True, "a")])
    word = dice.choice(["tie", "tie", "tie", "tie", "wish", "wish", "first", "drop"])
    if word in ("first", "drop"):
        return word, some_label(dice, labels)
    label = some_label(dice, [label for label in LABELS if label not in labels])
    terms, number = plain_lots.some_tie(dice, names, {name: dice.randint(-1, 1) for name in names})
    if dice.randint(0, 14) == 0:
        terms = dice.choice(ANYTHING + [(("w", (1, 1)),), (("x", (2, 2)),), terms[::-1] + terms[:1]])
    if dice.randint(0, 14) == 0:
        number = dice.choice(ANYTHING)
    return (word, label, terms, number) if word == "wish" else (word, label, (terms, number))


def some_commands(dice, names, most, labels=()):
    return [some_command(dice, names, labels) for turn in range(dice.randint(0, most))]


def dice_of(seed):
    return random.Random(seed)
