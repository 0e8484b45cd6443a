"""A second, plain way to answer lines: a pattern for each form of a line, over a plain board."""

import re
from fractions import Fraction

from tests import plain, plain_lots
from tests.plain import pair
from tests.plain_boards import PlainBoard
from tests.plain_pages import written_tie
from tests.plain_texts import plain_number, plain_terms, plain_ties

WORD = "([^ ]+)"
PATTERNS = {
    "tie": f"tie {WORD} (.*)", "wish": f"wish {WORD} {WORD} (.*)", "drop": f"drop {WORD}", "first": f"first {WORD}", "undo": "undo",
    "redo": "redo", "labels": "labels", "possible": "possible", "stretch": f"stretch {WORD}", "value": f"value {WORD}",
    "shadow": f"shadow {WORD} {WORD}", "holds": "holds (.*)",
}


def end_text(end):
    return "-" if end is None else str(Fraction(end))


class PlainDesk:
    def __init__(self, board):
        self.held = board
        self.lines = []

    def ask(self, line):
        answer = "what"
        for word, pattern in PATTERNS.items():
            found = re.fullmatch(pattern, line)
            if found:
                answer = getattr(self, "do_" + word)(*found.groups())
        self.lines.append((line, answer))
        return answer

    def done(self, fault):
        return "error " + fault[0] if fault else "ok"

    def do_tie(self, label, text):
        ties = plain_ties(text)
        if isinstance(ties, str):
            return "error " + ties
        return "what" if len(ties) == 2 else self.done(self.held.apply(("tie", label, ties[0])))

    def do_wish(self, label, target, text):
        terms = plain_terms(text)
        if isinstance(terms, str):
            return "error " + terms
        number = plain_number(target)
        return "error ParseError" if number is None else self.done(self.held.apply(("wish", label, terms, pair(number))))

    def do_drop(self, label):
        return self.done(self.held.apply(("drop", label)))

    def do_first(self, label):
        return self.done(self.held.apply(("first", label)))

    def do_undo(self):
        return self.done(self.held.undo())

    def do_redo(self):
        return self.done(self.held.redo())

    def do_labels(self):
        return " ".join(self.held.whole()["labels"]) or "none"

    def do_possible(self):
        return "yes" if plain_lots.possible(self.held.plain_ties()) else "no"

    def do_stretch(self, name):
        if name not in self.held.names:
            return "error UnknownName"
        ends = plain_lots.stretch(self.held.plain_ties(), name)
        return "none" if ends is None else " ".join(end_text(end) for end in ends)

    def do_value(self, name):
        if name not in self.held.names:
            return "error UnknownName"
        values = self.held.solution()
        return "error Impossible" if values is None else str(Fraction(*values[name]))

    def do_shadow(self, one, other):
        fault = self.held.shadow(one, other)
        if fault:
            return self.done(fault)
        rows = plain_lots.shadow(self.held.plain_ties(), one, other)
        if not rows:
            return "none" if rows is None else "all"
        texts = []
        for a, b, c in rows:
            terms = sorted((name, (rate, 1)) for name, rate in ((one, a), (other, b)) if rate)
            texts.append(written_tie((tuple(terms), c)))
        return "; ".join(texts)

    def do_holds(self, text):
        ties = plain_ties(text)
        if isinstance(ties, str):
            return "error " + ties
        if any(name not in self.held.names for tie in ties for name, rate in tie[0]):
            return "error UnknownName"
        return "yes" if all(plain_lots.follows(self.held.plain_ties(), tie) for tie in plain_lots.bare(ties)) else "no"


def desk_of(names, guarded=False, limit=20):
    return PlainDesk(PlainBoard(names, limit, guarded))


TERMS = ["x", "y", "-x", "2*x", "1/2*y", "x + y", "x-y", "2*x-1/2*y", "y+x", "x+x", "x + y - x", " -y ", "3*z-x", "x - x", "x+1-1", "x+1", "x+y+z",
         "", " ", "1", "2*", "x y", "x'", "0*x", "0*x+y", "2/4*x", "x <= 1", "X", "--x", "w"]
TEXTS = ["x <= 3", "x>=1", "y <= x", "2*x - 1/2*y <= 3", "x + y >= 2", "x <= 1/2*y+1", "y <= 1/2*x + 1", "-x<=0", "  y  >=  - 2 ", "x+x<=y+3",
         "x + y <= y", "x <= x", "1 <= 2", "x = 1", "x = y", "x = x", "x + y = z + 1", "x + y <= z", "z <= x - 1", "z >= 2*y", "x <", "x < 1", "",
         " ", "x", "<=", "x <= 1 <= 2", "x' <= 1", "w <= 1", "x <= w", "x - y + z <= z", "x <= 2/4", "5 >= x - -y", "x<=-1", "x=", "abcdefg <= 1"]
WORDS = ["a", "b", "c", "lo", "zz", "x", "y", "z", "w", "x'", "A", "", "abcdefghi", "1", "-1/2", "3/2", "2/4", "none"]


def some_line(dice):
    """Returns a line, which often has one of the forms."""
    word = dice.choice(["tie", "tie", "tie", "wish", "wish", "drop", "first", "undo", "redo", "labels", "possible", "stretch", "value", "shadow", "holds"])
    labels, names, numbers = ["a", "b", "c", "d", "lo", "zz"], ["x", "y", "z"], ["0", "1", "-1/2", "3/2", "10", "-4"]
    parts = {
        "tie": [dice.choice(labels), dice.choice(TEXTS[:12])], "wish": [dice.choice(labels), dice.choice(numbers), dice.choice(TERMS[:13])],
        "drop": [dice.choice(labels)], "first": [dice.choice(labels)], "stretch": [dice.choice(names)], "value": [dice.choice(names)],
        "shadow": dice.sample(names, 2), "holds": [dice.choice(TEXTS[:20])],
    }.get(word, [])
    parts = [word, *parts]
    way = dice.randint(0, 11)
    at = dice.randrange(len(parts))
    if way == 0:
        parts[at] = dice.choice(WORDS)
    elif way == 1:
        parts.insert(at, dice.choice(WORDS))
    elif way == 2:
        del parts[at]
    elif way == 3:
        parts.append(dice.choice(WORDS))
    elif way == 4:
        parts[-1] = dice.choice(TERMS + TEXTS)
    return " ".join(parts)
