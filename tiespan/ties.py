"""Ties: linear inequalities with one or two names, their texts, and how texts are read."""

from tiespan.errors import NotTied, ParseError
from tiespan.ratios import ZERO, add, common_divisor, is_less, is_ratio, multiply, ratio, ratio_text, subtract
from tiespan.symbols import MOST_LETTERS, read_sum, symbols_of


def is_name(text):
    """Returns whether a value is a name."""
    if not isinstance(text, str):
        return False
    letters = text.removesuffix("'")
    if len(letters) > MOST_LETTERS:
        return False
    return letters.isascii() and letters.isalpha() and letters.islower()


def is_term(thing):
    """Returns whether a value is a pair of a name and a fraction other than 0."""
    if not isinstance(thing, tuple) or len(thing) != 2:
        return False
    return is_name(thing[0]) and is_ratio(thing[1]) and thing[1][0] != 0


def are_terms(thing):
    """Returns whether a value is a tuple of one or two terms with ascending and different names."""
    if not isinstance(thing, tuple) or len(thing) not in (1, 2):
        return False
    if not all([is_term(term) for term in thing]):
        return False
    return len(thing) == 1 or thing[0][0] < thing[1][0]


def is_tie(thing):
    """Returns whether a value is a tie."""
    if not isinstance(thing, tuple) or len(thing) != 2:
        return False
    return are_terms(thing[0]) and is_ratio(thing[1])


def names_in(tie):
    """Returns the list of the names of a tie."""
    return [name for name, rate in tie[0]]


def reduced(tie):
    """Returns the tie with the same solutions whose rates are integers without a common divisor."""
    terms, bound = tie
    under = 1
    for name, rate in terms:
        under = under * rate[1] // common_divisor(under, rate[1])
    shared = 0
    for name, rate in terms:
        shared = common_divisor(shared, under // rate[1] * rate[0])
    scale = ratio(under, shared)
    return tuple([(name, multiply(rate, scale)) for name, rate in terms]), multiply(bound, scale)


def is_kept(tie, values):
    """Returns whether a dict of values keeps a tie."""
    terms, bound = tie
    total = ZERO
    for name, rate in terms:
        total = add(total, multiply(rate, values[name]))
    return not is_less(bound, total)


def term_text(name, rate):
    """Returns the text of a term."""
    if rate == (1, 1):
        return name
    if rate == (-1, 1):
        return "-" + name
    return ratio_text(rate) + "*" + name


def terms_text(terms):
    """Returns the text of terms."""
    text = term_text(terms[0][0], terms[0][1])
    for name, rate in terms[1:]:
        if rate[0] < 0:
            text = text + " - " + term_text(name, (-rate[0], rate[1]))
        else:
            text = text + " + " + term_text(name, rate)
    return text


def tie_text(tie):
    """Returns the text of a tie."""
    terms, bound = reduced(tie)
    return terms_text(terms) + " <= " + ratio_text(bound)


def ascending_names(rates):
    """Returns the names, ascending, whose rates are not 0."""
    return sorted([str(name) for name in rates if name != "" and rates[name][0] != 0])


def brought_together(left, right):
    """Returns the rates of one sum less those of another one."""
    rates = dict(left)
    for name in right:
        rates[name] = subtract(rates.get(name, ZERO), right[name])
    return rates


def tie_below(left, right):
    """Returns the reduced tie by which one sum is at most another one."""
    rates = brought_together(left, right)
    terms = tuple([(name, rates[name]) for name in ascending_names(rates)])
    return reduced((terms, subtract(ZERO, rates[""])))


def read_ties(text):
    """Returns the list with the reduced tie of a text, or with the two of an equation."""
    symbols = symbols_of(text)
    left, at = read_sum(symbols, 0)
    sort, sign, place = symbols[at]
    if sort != "relation":
        raise ParseError(place)
    right, at = read_sum(symbols, at + 1)
    if symbols[at][0] != "end":
        raise ParseError(symbols[at][2])
    many = len(ascending_names(brought_together(left, right)))
    if many not in (1, 2):
        raise NotTied(many)
    if sign == "<=":
        return [tie_below(left, right)]
    if sign == ">=":
        return [tie_below(right, left)]
    return [tie_below(left, right), tie_below(right, left)]
