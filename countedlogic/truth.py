"""When formulas are true.

A table is a whole number that tells for several choices at once whether something
is true under them: one bit for each choice, 1 if it is. The choices of a list of
names are numbered so that the first name's bit is the highest: then the choice
that comes first has the lower number.
"""

from countedlogic.names import is_name
from countedlogic.nodes import PAR, PLAIN, PLUS, TENSOR, TURNED, WITH, names_of
from countedlogic.signs import BLANK
from countedlogic.texts import split_at

# One table tells of the choices of at most so many names, so that its number stays short.
MOST_TABLE_NAMES = 8


def choice_in(text):
    """The names of a choice's text, as a list of tuples; None if it's not names with one blank between."""
    if text == []:
        return []
    names = [tuple(stretch) for stretch in split_at(text, BLANK)]
    return names if all([is_name(name) for name in names]) else None


def table_of(formula, tables, full):
    """The formula's table, by those of its names; full is the table of what's always true."""
    # Walked from its end, each node comes after the formulas that it is of.
    found = []
    for kind, name in reversed(formula):
        if kind == PLAIN:
            found.append(tables[name])
        elif kind == TURNED:
            found.append(full ^ tables[name])
        elif kind in (TENSOR, WITH):
            found.append(found.pop() & found.pop())
        elif kind in (PAR, PLUS):
            found.append(found.pop() | found.pop())
        # Of course and why not are true if what they are of is: its table stays where it is.
    return found.pop()


def truth_under(formula, choice):
    """1 if the formula is true under the choice, a list of names, else 0."""
    tables = {}
    for name in names_of(formula):
        tables[name] = 1 if name in choice else 0
    return table_of(formula, tables, 1)


def chosen(names, number):
    """Those of the names that are in the choice of this number."""
    highest = len(names) - 1
    return [name for position, name in enumerate(names) if (number >> (highest - position)) & 1 == 1]


def tables_of(names):
    """For each name its table over all the choices of these names."""
    tables = {}
    for name in names:
        tables[name] = 0
    for number in range(1 << len(names)):
        for name in chosen(names, number):
            tables[name] |= 1 << number
    return tables


def first_false(formula):
    """The names of the first choice under which the formula is false; None if there is none."""
    names = names_of(formula)
    # The choices of the names ahead are tried one by one, for each of them those of the names behind at once.
    ahead = names[:-MOST_TABLE_NAMES]
    behind = names[-MOST_TABLE_NAMES:]
    tables = tables_of(behind)
    full = (1 << (1 << len(behind))) - 1
    for number in range(1 << len(ahead)):
        taken = chosen(ahead, number)
        for name in ahead:
            tables[name] = full if name in taken else 0
        falsities = full ^ table_of(formula, tables, full)
        if falsities != 0:
            lowest = (falsities & -falsities).bit_length() - 1
            return taken + chosen(behind, lowest)
    return None
