"""Symbols of texts, and the sums that are read from them.

A symbol is a triple (sort, worth, index). Its sort is "number" (its worth is a fraction), "name", "relation"
(`<=`, `>=` or `=`), or one of the signs `+`, `-` and `*`. The last symbol of a text is of the sort "end" with the
length of the text, or of the sort "bad" at the first place where no valid symbol stands. Neither of these can stand
anywhere, so that reading fails there, and nowhere behind a fault that comes before.
"""

from tiespan.errors import ParseError
from tiespan.ratios import ZERO, add, ratio, ratio_of

DIGITS = "0123456789"
LETTERS = "abcdefghijklmnopqrstuvwxyz"
MOST_DIGITS = 30
MOST_LETTERS = 6


def run_end(text, at, letters):
    """Returns the index behind the run of some letters that begins at an index."""
    while at < len(text) and text[at] in letters:
        at += 1
    return at


def number_symbol(text, at):
    """Returns the sort, the worth and the end of the number that begins at an index."""
    end = run_end(text, at, DIGITS + "/")
    top, slash, under = text[at:end].partition("/")
    if len(top) > MOST_DIGITS or len(under) > MOST_DIGITS:
        return "bad", "", at
    worth = ratio_of(text[at:end])
    if worth is None:
        return "bad", "", at
    return "number", worth, end


def name_symbol(text, at):
    """Returns the sort, the worth and the end of the name that begins at an index."""
    end = run_end(text, at, LETTERS)
    if end - at > MOST_LETTERS:
        return "bad", "", at
    if text[end:end + 1] == "'":
        end += 1
    return "name", text[at:end], end


def symbol_at(text, at):
    """Returns the sort, the worth and the end of the symbol that begins at an index."""
    if text[at] in DIGITS:
        return number_symbol(text, at)
    if text[at] in LETTERS:
        return name_symbol(text, at)
    if text[at] in "+-*":
        return text[at], text[at], at + 1
    if text[at] == "=":
        return "relation", "=", at + 1
    if text[at:at + 2] in ("<=", ">="):
        return "relation", text[at:at + 2], at + 2
    return "bad", "", at


def symbols_of(text):
    """Returns the list of the symbols of a text up to the first one that is not valid."""
    symbols = []
    at = run_end(text, 0, " ")
    while at < len(text):
        sort, worth, end = symbol_at(text, at)
        symbols.append((sort, worth, at))
        if sort == "bad":
            return symbols
        at = run_end(text, end, " ")
    symbols.append(("end", "", len(text)))
    return symbols


def read_term(symbols, at):
    """Returns the name of the term at a position (the empty string for a number), its rate, and the position behind."""
    sort, worth, place = symbols[at]
    if sort == "name":
        return worth, (1, 1), at + 1
    if sort != "number":
        raise ParseError(place)
    if symbols[at + 1][0] != "*":
        return "", worth, at + 1
    if symbols[at + 2][0] != "name":
        raise ParseError(symbols[at + 2][2])
    return symbols[at + 2][1], worth, at + 3


def read_sum(symbols, at):
    """Returns the rates of the sum at a position, and the position behind it.

    The rates are a dict by names; the numbers of the sum are the rate of the empty string, which is always there.
    """
    rates = {"": ZERO}
    sign = 1
    if symbols[at][0] == "-":
        sign = -1
        at += 1
    while True:
        name, rate, at = read_term(symbols, at)
        rates[name] = add(rates.get(name, ZERO), ratio(sign * rate[0], rate[1]))
        if symbols[at][0] not in ("+", "-"):
            return rates, at
        sign = 1 if symbols[at][0] == "+" else -1
        at += 1
