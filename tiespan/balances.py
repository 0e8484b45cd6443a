"""Balances: shares, none of them below 0, with which columns of integers add up to a goal.

They are found by the simplex method: each row of a table is one equation, and each equation that no column serves yet
counts with what it lacks. In each turn one column begins to serve an equation, always the first one that lessens what
is lacking, so that no table comes twice. Each number of the table is an integer that stands for a part of one common
divisor; so divisions are exact, and nothing must be brought to lowest terms.

The columns that serve are never sums of each other, so there are at most as many as equations that are not sums of
others.
"""

from tiespan.ratios import ratio

NOBODY = -1


def table_of(columns, goal):
    """Returns the rows of the equations, with the goal, which is made positive, behind the columns."""
    rows = []
    for at, wanted in enumerate(goal):
        sign = -1 if wanted < 0 else 1
        rows.append([sign * column[at] for column in columns] + [sign * wanted])
    return rows


def first_useful(lack):
    """Returns the index of the first column that lessens what is lacking, or None."""
    for at, number in enumerate(lack[:-1]):
        if number > 0:
            return at
    return None


def gives_way(one, other, at):
    """Returns whether a row is filled by less of a column than another one, both with a number above 0 there."""
    return one[-1] * other[at] < other[-1] * one[at]


def tightest_row(rows, serving, at):
    """Returns the index of the row that is filled by the least of a column; of several, that of the first column."""
    found = None
    for place, row in enumerate(rows):
        if row[at] <= 0:
            continue
        if found is None or gives_way(row, rows[found], at):
            found = place
        elif not gives_way(rows[found], row, at) and serving[place] < serving[found]:
            found = place
    return found


def turned(row, pivot, at, divisor):
    """Returns a row from which so much of the pivot row is taken that its number at an index is 0."""
    mine, yours = row[at], pivot[at]
    return [(yours * number - mine * pivot[place]) // divisor for place, number in enumerate(row)]


def balance(columns, goal):
    """Returns the list of pairs (index of a column, share above 0), ascending, or None if there are no such shares."""
    rows = table_of(columns, goal)
    lack = [sum([row[at] for row in rows]) for at in range(len(columns) + 1)]
    serving = [NOBODY for wanted in goal]
    divisor = 1
    while lack[-1] > 0:
        at = first_useful(lack)
        if at is None:
            return None
        place = tightest_row(rows, serving, at)
        pivot = rows[place]
        rows = [pivot if k == place else turned(row, pivot, at, divisor) for k, row in enumerate(rows)]
        lack = turned(lack, pivot, at, divisor)
        divisor = pivot[at]
        serving[place] = at
    shares = {serving[k]: ratio(row[-1], divisor) for k, row in enumerate(rows) if row[-1] > 0}
    return [(at, shares[at]) for at in range(len(columns)) if at in shares]
