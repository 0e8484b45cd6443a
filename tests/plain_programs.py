"""A second, plain way to work out programs: runs by the words of their texts, and steps by elimination.

A run goes along the words of a text and lets Python compute its forms and checks with fractions. The step of a program
without either has one unknown for each value that a name ever gets, and all ties between these at once.
"""

import random
import re
from fractions import Fraction

from tests import plain_lots
from tests.plain import pair
from tests.plain_lots import bare

FORMS = ["0", "1", "-2", "1/2", "x", "y", "-x", "2*x", "x+1", "x-1", "y+1/2", "-1/2*y", "3*y-2", "-2/3*x+1"]
CHECKS = ["x<=y", "x<=3", "y>=-2", "x=y", "x+y<=4", "2*x-1/2*y<=3", "y=2*x", "x-y>=-5", "-x<=4"]


def worth_of(text, values):
    """Returns what Python computes for a form or a check."""
    text = re.sub(r"\d+(/\d+)?", lambda found: f"Fraction('{found.group()}')", text)
    text = re.sub(r"(?<![<>])=", "==", text)
    text = re.sub(r"\b[a-z]+\b", lambda found: f"values['{found.group()}']", text)
    return eval(text, {"Fraction": Fraction, "values": values})


class Run:
    """A run along the words of a text."""

    def __init__(self, text, values, choices):
        self.words = text.split()
        self.at = 0
        self.values = {name: Fraction(*value) for name, value in values.items()}
        self.choices = [Fraction(*choice) for choice in choices]
        self.used = 0
        self.failed = False

    def word(self):
        self.at += 1
        return self.words[self.at - 1]

    def choice(self):
        self.used += 1
        return self.choices[self.used - 1] if self.used <= len(self.choices) else Fraction(0)

    def worth(self, text):
        return worth_of(text, self.values)

    def block(self, doing):
        """Goes along the statements up to the brace behind them, or to the end."""
        while self.at < len(self.words):
            word = self.word()
            if word == "}":
                return
            getattr(self, "do_" + word)(doing and not self.failed)

    def braces(self, doing):
        assert self.word() == "{"
        self.block(doing)

    def do_set(self, doing):
        name, low, top = self.word(), self.word(), self.word()
        if doing:
            low, top = self.worth(low), self.worth(top)
            choice = self.choice()
            share = Fraction(0) if choice == 0 else 1 / (1 + abs(choice.numerator) * Fraction(1, choice.denominator))
            self.failed = top < low
            self.values[name] = low + share * (top - low)

    def do_any(self, doing):
        name = self.word()
        if doing:
            self.values[name] = self.choice()

    def do_check(self, doing):
        tie = self.word()
        if doing:
            self.failed = not self.worth(tie)

    def do_either(self, doing):
        second = doing and self.choice() != 0
        self.braces(doing and not second)
        assert self.word() == "or"
        self.braces(second)

    def do_repeat(self, doing):
        times = int(self.word())
        start = self.at
        self.braces(False)
        end = self.at
        for turn in range(times):
            self.at = start
            self.braces(doing and not self.failed)
        self.at = end


def run_words(text, values, choices):
    """Returns the values behind a run of a text, or None."""
    run = Run(text, values, choices)
    run.block(True)
    return None if run.failed else {name: pair(Fraction(value)) for name, value in run.values.items()}


def form_of(form):
    """Returns the plain form of a form: a dict of rates and a number."""
    rate, name, number = form
    return ({name: Fraction(*rate)} if rate != (0, 1) else {}), Fraction(*number)


def at_most(low, top):
    """Returns the plain tie by which one plain form is at most another one."""
    rates = dict(low[0])
    for name, rate in top[0].items():
        rates[name] = rates.get(name, 0) - rate
    return {name: rate for name, rate in rates.items() if rate != 0}, top[1] - low[1]


def chain(names, program):
    """Returns plain ties for a program without either, and a dict from names to the unknowns of their last values.

    The unknowns of the first values have the names; each later one has the name, a blank and a number.
    """
    now = {name: name for name in names}
    ties = []
    many = [0]

    def renewed(name):
        many[0] += 1
        now[name] = f"{name} {many[0]}"

    def go(statements):
        for statement in statements:
            word = statement[0]
            if word == "set":
                ends = []
                for rates, number in (form_of(statement[2]), form_of(statement[3])):
                    ends.append(({now[name]: rate for name, rate in rates.items()}, number))
                renewed(statement[1])
                value = ({now[statement[1]]: Fraction(1)}, Fraction(0))
                ties.extend([at_most(ends[0], value), at_most(value, ends[1])])
            elif word == "any":
                renewed(statement[1])
            elif word == "check":
                ties.extend(plain_lots.renamed(bare(statement[1]), now))
            else:
                assert word == "repeat"
                for turn in range(statement[1]):
                    go(statement[2])

    go(program)
    return ties, now


def both(names):
    return list(names) + [name + "'" for name in names]


def with_ends(names, program):
    """Returns the plain ties of a program without either, with the last values under the names with an apostrophe."""
    ties, now = chain(names, program)
    for name in names:
        ends = ({now[name]: Fraction(1)}, Fraction(0)), ({name + "'": Fraction(1)}, Fraction(0))
        ties = ties + [at_most(*ends), at_most(*ends[::-1])]
    return ties


def has_either(program):
    for statement in program:
        if statement[0] == "either" or (statement[0] == "repeat" and has_either(statement[2])):
            return True
    return False


def step_ties(names, program):
    """Returns the ties of the closed lot of a program: one statement behind the other, either as the round."""
    if not has_either(program):
        return plain_lots.limited(with_ends(names, program), both(names))
    found = step_ties(names, ())
    for statement in program:
        if statement[0] == "either":
            ones, others = step_ties(names, statement[1]), step_ties(names, statement[2])
            steps = [plain_lots.joined(both(names), bare(ones), bare(others))]
        elif statement[0] == "repeat":
            steps = [step_ties(names, statement[2])] * statement[1]
        else:
            steps = [step_ties(names, (statement,))]
        for step in steps:
            found = plain_lots.composed(names, bare(found), bare(step))
    return found


def some_forms(dice):
    """Returns the texts of two forms, often the same or the second one greater."""
    low = dice.choice(FORMS)
    greater = low + "+1" if re.fullmatch(r"-?[\d/*]*[xy]", low) else low
    return low, dice.choice([low, greater, dice.choice(FORMS)])


def some_statement(dice):
    """Returns the text of a statement over x and y without braces."""
    kind = dice.choice(["set", "set", "any", "check"])
    if kind == "set":
        return " ".join(["set", dice.choice("xy"), *some_forms(dice)])
    if kind == "any":
        return "any " + dice.choice("xy")
    return "check " + dice.choice(CHECKS)


def some_text(dice, names, most, depth, either=True):
    """Returns the text of a drawn program over two or more names."""
    parts = []
    for turn in range(dice.randint(0, most)):
        kind = dice.choice(["plain", "plain", "plain", "block"]) if depth else "plain"
        if kind == "plain":
            chosen = dice.sample(names, 2)
            text = some_statement(dice)
            parts.append(re.sub(r"\b[xy]\b", lambda found: chosen["xy".index(found.group())], text))
        elif either and dice.randint(0, 1):
            first, second = [some_text(dice, names, 2, depth - 1) for half in "ab"]
            parts.append(f"either {{ {first} }} or {{ {second} }}")
        else:
            parts.append(f"repeat {dice.randint(0, 3)} {{ {some_text(dice, names, 2, depth - 1, either)} }}")
    return re.sub(" +", " ", " ".join(parts))


def some_texts(seed, count, names, most, depth, either=True):
    dice = random.Random(seed)
    return [some_text(dice, names, most, depth, either) for turn in range(count)]
