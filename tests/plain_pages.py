"""A second, plain way to write and to read pages: regular expressions, and one rule after the other for each line."""

import re
from fractions import Fraction

from tests.plain import pair
from tests.plain_boards import LABELS, some_command, told
from tests.plain_texts import whole_tie

N = r"\d+(?:/\d+)?"
NAME = r"[a-z]{1,6}'?"
TERM = rf"(?:{N}\*)?{NAME}"
TERMS = rf"-?{TERM}(?: [+-] {TERM})?"
WHOLE = rf"-?(?:\d+\*)?{NAME}(?: [+-] (?:\d+\*)?{NAME})?"
LABEL = "[a-z]{1,8}"


def written_terms(terms):
    text = ""
    for name, rate in terms:
        rate = Fraction(*rate)
        sign = ("-" if rate < 0 else "") if not text else " - " if rate < 0 else " + "
        text += sign + (name if abs(rate) == 1 else f"{abs(rate)}*{name}")
    return text


def written_tie(tie):
    rates = {name: Fraction(*rate) for name, rate in tie[0]}
    terms, bound = whole_tie({**rates, "": -Fraction(*tie[1])})
    return written_terms(terms) + " <= " + str(Fraction(*bound))


def written_page(names, ties, wishes):
    """Returns the page for names, a dict of ties by labels, and wishes."""
    lines = [" ".join(["names", *sorted(names)])]
    lines += [f"tie {label} {written_tie(ties[label])}" for label in sorted(ties)]
    lines += [f"wish {label} {Fraction(*target)} {written_terms(terms)}" for label, terms, target in wishes]
    return "".join(line + "\n" for line in lines)


def read_terms(text):
    """Returns the terms of a text that has the form of terms, or None if they are not written so."""
    pairs = []
    for sign, rate, name in re.findall(rf"(-|\+|^) ?(?:({N})\*)?({NAME})", text):
        if re.search(r"/0+$", rate):
            return None
        number = Fraction(rate or 1)
        pairs.append((name, pair(-number if sign == "-" else number)))
    fits = [name for name, rate in pairs] == sorted(set(name for name, rate in pairs))
    fits = fits and all(rate[0] != 0 for name, rate in pairs)
    return tuple(pairs) if fits and written_terms(pairs) == text else None


def is_number(text):
    return re.fullmatch(f"-?{N}", text) is not None and not re.search(r"/0+$", text) and str(Fraction(text)) == text


class Page:
    """What the lines of a page say, as far as they have been read."""

    def __init__(self):
        self.names = []
        self.ties = {}
        self.wishes = []

    def takes(self, at, line):
        """Takes over a line if it is as pages have it."""
        if at == 0:
            return self.takes_names(line)
        if re.fullmatch(f"tie {LABEL} {WHOLE} <= -?{N}", line):
            return self.takes_tie(line)
        if re.fullmatch(f"wish {LABEL} -?{N} {TERMS}", line):
            return self.takes_wish(line)
        return False

    def takes_names(self, line):
        self.names = line.split(" ")[1:]
        fits = re.fullmatch(f"names( {NAME})*", line) and self.names == sorted(set(self.names))
        return bool(fits)

    def free(self, label):
        return label not in self.ties and label not in [wish[0] for wish in self.wishes]

    def takes_tie(self, line):
        label, text = line.split(" ", 2)[1:]
        terms = read_terms(text.split(" <= ")[0])
        bound = text.split(" <= ")[1]
        if terms is None or not is_number(bound) or not all(name in self.names for name, rate in terms):
            return False
        last = max(self.ties, default="")
        if not self.free(label) or self.wishes or label < last or len(self.ties) == 40:
            return False
        self.ties[label] = (terms, pair(Fraction(bound)))
        return written_tie(self.ties[label]) == text

    def takes_wish(self, line):
        label, target, text = line.split(" ", 3)[1:]
        terms = read_terms(text)
        if terms is None or not is_number(target) or not all(name in self.names for name, rate in terms):
            return False
        if not self.free(label) or len(self.wishes) == 8:
            return False
        self.wishes.append((label, terms, pair(Fraction(target))))
        return True


def read_page(text):
    """Returns what a page says, and the index of its first wrong line, or None."""
    page = Page()
    lines = text.split("\n")
    for at, line in enumerate(lines[:-1]):
        if not page.takes(at, line):
            return page, at
    return page, len(lines) - 1 if len(lines) == 1 or lines[-1] else None


def fill(dice, board, turns):
    """Applies drawn commands, each of them alone, to a board."""
    for turn in range(turns):
        told(lambda: board.apply(some_command(dice, board.names(), board.labels())))


def changed_lines(dice, lines):
    """Returns lines that are exchanged, doubled, removed, changed or put in."""
    lines = list(lines)
    way, at, other = dice.randint(0, 6), dice.randrange(len(lines)), dice.randrange(len(lines))
    if way == 0:
        lines[at], lines[other] = lines[other], lines[at]
    elif way == 1:
        lines.insert(other, lines[at])
    elif way == 2:
        del lines[at]
    elif way == 3:
        letters = list(lines[at])
        spot = dice.randint(0, len(letters))
        letters[spot:spot + dice.randint(0, 1)] = dice.choice(["", " ", "x", "1", "-", "'", "a", "/2", "*", "=", "0"])
        lines[at] = "".join(letters)
    elif way == 4:
        words = lines[at].split(" ")
        words[dice.randrange(len(words))] = dice.choice(["", "x", "y", "tie", "wish", "names", "a", "zz", "1", "2*x", "+", "-", "<=", "1/2"])
        lines[at] = " ".join(words)
    elif way == 5:
        lines.insert(at, dice.choice(["", "names", "tie a x <= 1", "wish b 1 x", "tie", "wish", " ", f"tie {dice.choice(LABELS)} -x <= 0"]))
    return lines
