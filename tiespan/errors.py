"""The errors of the program. The attributes of an error are its arguments; its tag is the name of its class."""


class TieError(ValueError):
    """The base of the errors about values that are not valid here."""

    def __init__(self):
        self.tag = "TieError"


class InvalidRatio(TieError):
    """A number by which nothing can be divided."""

    def __init__(self, given):
        self.given = given
        self.tag = "InvalidRatio"


class InvalidRow(TieError):
    """An item, told by its index, that is no row of a figure."""

    def __init__(self, at):
        self.at = at
        self.tag = "InvalidRow"


class InvalidName(TieError):
    """A string that cannot be a name, or a label, here."""

    def __init__(self, name):
        self.name = name
        self.tag = "InvalidName"


class InvalidTie(TieError):
    """An item, told by its index, that is no tie between the names."""

    def __init__(self, at):
        self.at = at
        self.tag = "InvalidTie"


class InvalidWish(TieError):
    """A wish, told by its index, that is not valid or not there."""

    def __init__(self, at):
        self.at = at
        self.tag = "InvalidWish"


class InvalidTimes(TieError):
    """A number of times that is too small or too large."""

    def __init__(self, given):
        self.given = given
        self.tag = "InvalidTimes"


class InvalidLimit(TieError):
    """A limit that is too small or too large."""

    def __init__(self, given):
        self.given = given
        self.tag = "InvalidLimit"


class InvalidCommand(TieError):
    """A command with another first element or another length."""

    def __init__(self, first):
        self.first = first
        self.tag = "InvalidCommand"


class NotTied(TieError):
    """A sum or an inequality with a number of names that no tie has."""

    def __init__(self, many):
        self.many = many
        self.tag = "NotTied"


class SameName(TieError):
    """One name where two different ones are needed."""

    def __init__(self, name):
        self.name = name
        self.tag = "SameName"


class NamesDiffer(TieError):
    """Two things with different names that cannot be taken together."""

    def __init__(self):
        self.tag = "NamesDiffer"


class EmptyFigure(TieError):
    """A figure without a point where one with a point is needed."""

    def __init__(self):
        self.tag = "EmptyFigure"


class Impossible(TieError):
    """Ties without a solution where one with a solution is needed."""

    def __init__(self):
        self.tag = "Impossible"


class Possible(TieError):
    """Ties that cannot be refuted, with a solution of them."""

    def __init__(self, answer):
        self.answer = answer
        self.tag = "Possible"


class NotImplied(TieError):
    """A tie that cannot be derived, with a solution that does not keep it."""

    def __init__(self, answer):
        self.answer = answer
        self.tag = "NotImplied"


class ParseError(TieError):
    """A text that cannot be read, with the place of its first fault."""

    def __init__(self, at):
        self.at = at
        self.tag = "ParseError"


class DuplicateLabel(TieError):
    """A label that is taken."""

    def __init__(self, label):
        self.label = label
        self.tag = "DuplicateLabel"


class CapacityExceeded(TieError):
    """One thing more than there may be."""

    def __init__(self, most):
        self.most = most
        self.tag = "CapacityExceeded"


class Missing(LookupError):
    """The base of the errors about what is asked for and not there."""

    def __init__(self):
        self.tag = "Missing"


class UnknownName(Missing):
    """A name that is not there."""

    def __init__(self, name):
        self.name = name
        self.tag = "UnknownName"


class UnknownLabel(Missing):
    """A label that is not there."""

    def __init__(self, label):
        self.label = label
        self.tag = "UnknownLabel"


class NothingLeft(IndexError):
    """A history without another step in the direction that is asked for."""

    def __init__(self):
        self.tag = "NothingLeft"
