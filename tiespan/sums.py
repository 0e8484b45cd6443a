"""Texts that are one sum: terms, and forms, which are triples (rate, name, number).

A form stands for the rate times the name's value, plus the number; a number alone has the rate 0 and the empty string.
"""

from tiespan.errors import NotTied, ParseError
from tiespan.ratios import ZERO, add, multiply, ratio_text
from tiespan.symbols import read_sum, symbols_of
from tiespan.ties import ascending_names, term_text


def whole_sum(text):
    """Returns the rates of a text that is one sum; its numbers are the rate of the empty string."""
    symbols = symbols_of(text)
    rates, at = read_sum(symbols, 0)
    if symbols[at][0] != "end":
        raise ParseError(symbols[at][2])
    return rates


def read_terms(text):
    """Returns the terms with a text, which is a sum of one or two names without a number."""
    rates = whole_sum(text)
    names = ascending_names(rates)
    if len(names) not in (1, 2) or rates[""] != ZERO:
        raise NotTied(len(names))
    return tuple([(name, rates[name]) for name in names])


def read_form(text):
    """Returns the form with a text, which is a sum of at most one name."""
    rates = whole_sum(text)
    names = ascending_names(rates)
    if len(names) > 1:
        raise NotTied(len(names))
    name = names[0] if names != [] else ""
    return (rates[name] if name != "" else ZERO, name, rates[""])


def form_text(form):
    """Returns the text of a form, without spaces."""
    rate, name, number = form
    if rate == ZERO:
        return ratio_text(number)
    if number == ZERO:
        return term_text(name, rate)
    sign = "+" if number[0] > 0 else ""
    return term_text(name, rate) + sign + ratio_text(number)


def form_rates(form):
    """Returns the rates of the sum that a form is, as they are read from a text."""
    rate, name, number = form
    return {"": number} if rate == ZERO else {"": number, name: rate}


def form_value(form, values):
    """Returns the value of a form, by the values of names."""
    rate, name, number = form
    return number if rate == ZERO else add(multiply(rate, values[name]), number)
