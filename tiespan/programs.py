"""Programs: tuples of statements that change values, their texts, their runs, and the steps to which they compile."""

from tiespan.errors import InvalidName, ParseError, TieError
from tiespan.motions import Step
from tiespan.ratios import ZERO, add, is_less, multiply, ratio, subtract
from tiespan.sums import form_rates, form_text, form_value, read_form
from tiespan.ties import is_kept, is_name, names_in, read_ties, tie_below, tie_text
from tiespan.webs import ascending

DEEPEST = 4
STATEMENTS = ("set", "any", "check", "either", "repeat")
TIMES = ("0", "1", "2", "3", "4")


def word_at(words, at):
    """Returns the word at an index, which must be there and have no apostrophe."""
    if at >= len(words) or "'" in words[at]:
        raise ParseError(at)
    return words[at]


def name_at(words, at):
    """Returns the name at an index."""
    word = word_at(words, at)
    if not is_name(word):
        raise ParseError(at)
    return word


def form_at(words, at):
    """Returns the form at an index."""
    word = word_at(words, at)
    try:
        return read_form(word)
    except TieError:
        raise ParseError(at)


def ties_at(words, at):
    """Returns the tuple of the ties at an index."""
    word = word_at(words, at)
    try:
        return tuple(read_ties(word))
    except TieError:
        raise ParseError(at)


def times_at(words, at):
    """Returns the number of times at an index."""
    word = word_at(words, at)
    if word not in TIMES:
        raise ParseError(at)
    return int(word)


def check_word(words, at, wanted):
    """Checks that a certain word stands at an index."""
    if word_at(words, at) != wanted:
        raise ParseError(at)


def read_braces(words, at, depth):
    """Returns the program within the braces at an index, and the index behind them."""
    check_word(words, at, "{")
    if depth >= DEEPEST:
        raise ParseError(at)
    program, at = read_statements(words, at + 1, depth + 1)
    check_word(words, at, "}")
    return program, at + 1


def read_either(words, at, depth):
    """Returns the choice of two programs at an index, and the index behind it."""
    first, at = read_braces(words, at + 1, depth)
    check_word(words, at, "or")
    second, at = read_braces(words, at + 1, depth)
    return ("either", first, second), at


def read_repeat(words, at, depth):
    """Returns the repetition at an index, and the index behind it."""
    times = times_at(words, at + 1)
    program, at = read_braces(words, at + 2, depth)
    return ("repeat", times, program), at


def read_statement(words, at, depth):
    """Returns the statement at an index, and the index behind it."""
    word = words[at]
    if word == "set":
        return ("set", name_at(words, at + 1), form_at(words, at + 2), form_at(words, at + 3)), at + 4
    if word == "any":
        return ("any", name_at(words, at + 1)), at + 2
    if word == "check":
        return ("check", ties_at(words, at + 1)), at + 2
    if word == "either":
        return read_either(words, at, depth)
    return read_repeat(words, at, depth)


def read_statements(words, at, depth):
    """Returns the program at an index, and the index of the first word behind it that begins no statement."""
    program = []
    while at < len(words) and words[at] in STATEMENTS:
        statement, at = read_statement(words, at, depth)
        program.append(statement)
    return tuple(program), at


def read_program(text):
    """Returns the program with a text."""
    words = text.split(" ") if text != "" else []
    program, at = read_statements(words, 0, 0)
    if at < len(words):
        raise ParseError(at)
    return program


def check_text(ties):
    """Returns the text, without spaces, of one tie, or of the two ties of an equation."""
    text = tie_text(ties[0]).replace(" ", "")
    return text if len(ties) == 1 else text.replace("<=", "=")


def braces_text(program):
    """Returns the text of a program within braces."""
    return " ".join(["{"] + [statement_text(statement) for statement in program] + ["}"])


def statement_text(statement):
    """Returns the text of a statement."""
    word = statement[0]
    if word == "set":
        return " ".join(["set", statement[1], form_text(statement[2]), form_text(statement[3])])
    if word == "any":
        return "any " + statement[1]
    if word == "check":
        return "check " + check_text(statement[1])
    if word == "either":
        return " ".join(["either", braces_text(statement[1]), "or", braces_text(statement[2])])
    return " ".join(["repeat", str(statement[1]), braces_text(statement[2])])


def program_text(program):
    """Returns the text of a program."""
    return " ".join([statement_text(statement) for statement in program])


def names_of_statement(statement):
    """Returns a list of the names in a statement."""
    word = statement[0]
    if word == "set":
        return [statement[1]] + [form[1] for form in statement[2:] if form[1] != ""]
    if word == "any":
        return [statement[1]]
    if word == "check":
        return [name for tie in statement[1] for name in names_in(tie)]
    if word == "either":
        return names_of(statement[1]) + names_of(statement[2])
    return names_of(statement[2])


def names_of(program):
    """Returns the list of the names in a program, ascending."""
    return ascending([name for statement in program for name in names_of_statement(statement)])


def ties_of(names, statement):
    """Returns the list of the ties between old and new values for a statement without a program."""
    if statement[0] == "check":
        return Step.stay(names).ties() + list(statement[1])
    changed = statement[1]
    ties = Step.stay([name for name in names if name != changed]).ties()
    if statement[0] == "any":
        return ties
    value = {"": ZERO, changed + "'": (1, 1)}
    return ties + [tie_below(form_rates(statement[2]), value), tie_below(value, form_rates(statement[3]))]


def product(names, steps):
    """Returns the step, with the ties of its closed lot, that does some steps one behind the other."""
    first = steps[0] if len(steps) > 0 else Step.stay(names)
    found = first.closed()
    for step in steps[1:]:
        found = found * step
    return found


def repetition(names, step, times):
    """Returns the step that does a step so many times; the two halves of them are the same."""
    half = product(names, [step] * (times // 2))
    return product(names, [half, half] + [step] * (times - times // 2 * 2))


def step_of_statement(names, statement):
    """Returns the step of a statement."""
    if statement[0] == "either":
        first = step_of(names, statement[1])
        second = step_of(names, statement[2])
        return Step(names, (first.lot() + second.lot()).ties())
    if statement[0] == "repeat":
        return repetition(names, step_of(names, statement[2]), statement[1])
    return Step(names, ties_of(names, statement))


def step_of(names, program):
    """Returns the step of a program."""
    return product(names, [step_of_statement(names, statement) for statement in program])


def compiled(names, program):
    """Returns the step of a program."""
    unknowns = Step(names).names()
    for name in names_of(program):
        if name not in unknowns:
            raise InvalidName(name)
    return step_of(unknowns, program)


def next_choice(choices):
    """Takes the first one of the choices that are left, or 0 if none is left."""
    return choices.pop(0) if len(choices) > 0 else ZERO


def share_of(choice):
    """Returns the share of the way from the first form of a set to the second one that a choice stands for."""
    top, under = choice
    return ZERO if top == 0 else ratio(under, under + abs(top))


def sets_value(statement, values, choices):
    """Gives a name the chosen value between two forms; returns whether there is such a value."""
    low = form_value(statement[2], values)
    top = form_value(statement[3], values)
    if is_less(top, low):
        return False
    share = share_of(next_choice(choices))
    values[statement[1]] = add(low, multiply(share, subtract(top, low)))
    return True


def runs_statement(statement, values, choices):
    """Changes values as a statement does, and takes the choices that it uses; returns whether the run goes on."""
    word = statement[0]
    if word == "set":
        return sets_value(statement, values, choices)
    if word == "any":
        values[statement[1]] = next_choice(choices)
        return True
    if word == "check":
        return all([is_kept(tie, values) for tie in statement[1]])
    if word == "either":
        chosen = statement[1] if next_choice(choices) == ZERO else statement[2]
        return runs(chosen, values, choices)
    return runs(statement[2] * statement[1], values, choices)


def runs(program, values, choices):
    """Changes values as a program does, and takes the choices that it uses; returns whether the run reaches the end."""
    for statement in program:
        if not runs_statement(statement, values, choices):
            return False
    return True


def run_program(program, values, *choices):
    """Returns the values behind a run, or None if the run does not reach the end."""
    found = dict(values)
    return found if runs(program, found, list(choices)) else None
