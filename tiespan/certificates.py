"""Certificates: sums of ties that show a tie or a contradiction."""

from tiespan.balances import balance
from tiespan.errors import NotImplied, Possible
from tiespan.lots import Lot
from tiespan.ratios import ZERO, add, common_divisor, is_less, is_ratio, is_whole, multiply, ratio, subtract
from tiespan.ties import names_in
from tiespan.values import negative, top_of
from tiespan.webs import web_for


def is_share(thing, many):
    """Returns whether a value is a pair of an index of one of some ties and a share."""
    if not isinstance(thing, tuple) or len(thing) != 2:
        return False
    at, share = thing
    return is_whole(at) and 0 <= at < many and is_ratio(share) and share[0] > 0


def is_paper(paper, many):
    """Returns whether a list is made up like a certificate for some number of ties."""
    before = -1
    for thing in paper:
        if not is_share(thing, many) or thing[0] <= before:
            return False
        before = thing[0]
    return True


def total(ties, paper):
    """Returns the sum of ties, each times its share: a dict of the rates other than 0, and the bound."""
    rates = {}
    bound = ZERO
    for at, share in paper:
        terms, most = ties[at]
        for name, rate in terms:
            rates[name] = add(rates.get(name, ZERO), multiply(rate, share))
        bound = add(bound, multiply(most, share))
    return {name: rates[name] for name in rates if rates[name] != ZERO}, bound


def refutes(ties, paper):
    """Returns whether a list is a certificate that refutes ties."""
    if not is_paper(paper, len(ties)):
        return False
    rates, bound = total(ties, paper)
    return rates == {} and is_less(bound, ZERO)


def derives(ties, tie, paper):
    """Returns whether a list is a certificate that derives a tie from ties."""
    if not is_paper(paper, len(ties)):
        return False
    terms, most = tie
    rates, bound = total(ties, paper)
    if rates == {}:
        return is_less(bound, ZERO)
    return rates == dict(terms) and not is_less(most, bound)


def column_of(names, terms, bound):
    """Returns the list of the rates of names and a bound."""
    rates = dict(terms)
    return [rates.get(name, ZERO) for name in names] + [bound]


def whole_scale(column):
    """Returns a number that makes integers of all fractions of a column."""
    scale = 1
    for number in column:
        scale = scale * number[1] // common_divisor(scale, number[1])
    return scale


def whole(column, scale):
    """Returns the integers of a column times a number that makes them so."""
    return [number[0] * (scale // number[1]) for number in column]


def sum_to(lot, terms, bound):
    """Returns the certificate of a lot whose sum has some terms and exactly a bound."""
    columns = [column_of(lot.names(), tie[0], tie[1]) for tie in lot.ties()]
    goal = column_of(lot.names(), terms, bound)
    scales = [whole_scale(column) for column in columns]
    aim = whole_scale(goal)
    found = balance([whole(column, scales[at]) for at, column in enumerate(columns)], whole(goal, aim))
    return [(at, multiply(share, ratio(scales[at], aim))) for at, share in found]


def contradiction(lot):
    """Returns the certificate that refutes a lot without a solution."""
    return sum_to(lot, (), (-1, 1))


def against(lot, terms, bound):
    """Returns a solution of a lot with a value of terms that is not less than a bound."""
    tie = (negative(terms), subtract(ZERO, bound))
    return Lot(lot.names(), lot.ties() + [tie]).solution()


def derive(lot, tie):
    """Returns a certificate that derives a tie from the ties of a lot."""
    terms, bound = tie
    for name in names_in(tie):
        lot.known(name)
    web = web_for(lot.web(), names_in(tie))
    if web is None:
        return contradiction(lot)
    top = top_of(web, terms)
    if top is None:
        raise NotImplied(against(lot, terms, add(bound, (1, 1))))
    if is_less(bound, top):
        raise NotImplied(against(lot, terms, top))
    # With the least bound that follows, no more ties than names can have a share.
    return sum_to(lot, terms, top)


def refute(lot):
    """Returns a certificate that refutes the ties of a lot."""
    if lot.possible:
        raise Possible(lot.solution())
    return contradiction(lot)
