"""Sequents, as lists of formulas."""

from countedlogic.nodes import PAR, PLAIN, TENSOR, TURNED, names_of
from countedlogic.reading import formula_in
from countedlogic.signs import BLANK, COMMA
from countedlogic.texts import joined, split_at
from countedlogic.writing import form_of

MOST_FORMULAS = 20


def sequent_in(text):
    """The formulas of a sequent's text, in bounds or not; None if it's no sequent's."""
    if all([byte == BLANK for byte in text]):
        return []
    parts = split_at(text, COMMA)
    if len(parts) > MOST_FORMULAS:
        return None
    formulas = [formula_in(part) for part in parts]
    return None if None in formulas else formulas


def nodes_in(sequent):
    """The nodes of all its formulas, in one list."""
    return joined(sequent, [])


def is_balanced(sequent):
    """Whether every name stands in it as often plain as turned."""
    nodes = nodes_in(sequent)
    return all([nodes.count((PLAIN, name)) == nodes.count((TURNED, name)) for name in names_of(nodes)])


def is_multiplicative(sequent):
    """Whether only atoms, tensors and pars stand in it."""
    return all([kind in (PLAIN, TURNED, TENSOR, PAR) for kind, name in nodes_in(sequent)])


def sequent_form(sequent):
    """The form, as a list of bytes."""
    return joined([form_of(formula) for formula in sequent], [COMMA, BLANK])
