"""A second, plain way to read texts: regular expressions and fractions for sums and ties, a stack for programs."""

import re
from fractions import Fraction
from math import gcd

from tests.plain import pair

NUMBER = r"\d+(?:/\d+)?"
NAME = r"[a-z]+'?"
TERM = rf"(?:{NUMBER} *\* *{NAME}|{NUMBER}|{NAME})"
SUM = rf" *-? *{TERM}(?: *[+-] *{TERM})* *"
STATEMENTS = {
    "set": ["name", "form", "form"], "any": ["name"], "check": ["ties"], "either": ["{", "or", "{"], "repeat": ["times", "{"],
}


def plain_number(text):
    """Returns the fraction with a text in lowest terms, or None."""
    if not re.fullmatch(rf"-?{NUMBER}", text) or re.search(r"/0+$", text):
        return None
    number = Fraction(text)
    return number if str(number) == text else None


def plain_term(text):
    """Returns the name and the rate of a term without a sign, or None."""
    rate, star, name = text.replace(" ", "").rpartition("*")
    if not star and name[0].isdigit():
        rate, name = name, ""
    number = plain_number(rate) if rate else Fraction(1)
    fits = len(name.removesuffix("'")) <= 6 and all(len(part) <= 30 for part in rate.split("/"))
    return (name, number) if fits and number is not None else None


def plain_sum(text):
    """Returns the rates of a sum, with the number as that of the empty string, or None."""
    if not re.fullmatch(SUM, text):
        return None
    rates = {"": Fraction(0)}
    for sign, term in re.findall(rf"([+-]?) *({TERM})", text):
        found = plain_term(term)
        if found is None:
            return None
        name, rate = found
        rates[name] = rates.get(name, 0) + (-rate if sign == "-" else rate)
    return rates


def names_of(rates):
    return sorted(name for name in rates if name and rates[name] != 0)


def plain_form(word):
    """Returns the form of a word, or None."""
    rates = plain_sum(word)
    if rates is None or len(names_of(rates)) > 1:
        return None
    name = (names_of(rates) + [""])[0]
    return pair(rates[name] if name else Fraction(0)), name, pair(rates[""])


def plain_terms(text):
    """Returns the terms of a text, or the class of the error that it raises."""
    rates = plain_sum(text)
    if rates is None:
        return "ParseError"
    names = names_of(rates)
    return tuple((name, pair(rates[name])) for name in names) if len(names) in (1, 2) and rates[""] == 0 else "NotTied"


def whole_tie(rates):
    """Returns the reduced tie by which a sum is at most 0."""
    names = names_of(rates)
    under = 1
    for name in names:
        under *= rates[name].denominator
    shared = gcd(*[int(rates[name] * under) for name in names])
    scale = Fraction(under, shared)
    return tuple((name, pair(rates[name] * scale)) for name in names), pair(-rates[""] * scale)


def plain_ties(text):
    """Returns the list of the reduced ties of a text, or the class of the error that it raises."""
    sides = [plain_sum(side) for side in re.split("<=|>=|=", text)]
    if len(sides) != 2 or None in sides:
        return "ParseError"
    left, right = sides
    rates = {name: left.get(name, 0) - right.get(name, 0) for name in {**left, **right}}
    less = {name: -rates[name] for name in rates}
    if len(names_of(rates)) not in (1, 2):
        return "NotTied"
    if "<=" in text:
        return [whole_tie(rates)]
    return [whole_tie(less)] if ">=" in text else [whole_tie(rates), whole_tie(less)]


def stands(wanted, word):
    """Returns whether a word can stand where a name, a form and the like is wanted."""
    if "'" in word:
        return False
    if wanted == "name":
        return re.fullmatch("[a-z]{1,6}", word) is not None
    if wanted == "form":
        return plain_form(word) is not None
    if wanted == "ties":
        return " " not in word and isinstance(plain_ties(word), list)
    return word in "01234" and len(word) == 1 if wanted == "times" else word == wanted


def first_wrong_word(text):
    """Returns the index of the first word that cannot stand in a program's text, or None."""
    words = text.split(" ") if text else []
    todo = [0]
    for at, word in enumerate(words):
        wanted = todo.pop()
        if isinstance(wanted, int):
            if word in STATEMENTS:
                todo.append(wanted)
                todo += [(part, wanted) for part in STATEMENTS[word][::-1]]
            elif word != "}" or wanted == 0:
                return at
            continue
        part, depth = wanted
        if not stands(part, word) or (part == "{" and depth == 4):
            return at
        if part == "{":
            todo.append(depth + 1)
    return None if todo == [0] else len(words)


def plain_program(text):
    """Returns the program with a valid text."""
    words = text.split()[::-1]

    def block():
        assert words.pop() == "{"
        found = go()
        assert words.pop() == "}"
        return found

    def go():
        found = []
        while words and words[-1] != "}":
            word = words.pop()
            if word == "set":
                found.append((word, words.pop(), plain_form(words.pop()), plain_form(words.pop())))
            elif word == "any":
                found.append((word, words.pop()))
            elif word == "check":
                found.append((word, tuple(plain_ties(words.pop()))))
            elif word == "repeat":
                found.append((word, int(words.pop()), block()))
            else:
                first = block()
                assert (word, words.pop()) == ("either", "or")
                found.append((word, first, block()))
        return tuple(found)

    return go()
