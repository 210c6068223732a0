"""Formulas written as texts."""

from countedlogic.nodes import PART_COUNTS, PLAIN, TURNED
from countedlogic.signs import CLOSING, KIND_SIGNS, OPENING, TILDE


def enclosed(kind, text):
    """The form of a formula where one of two formulas needs ( )."""
    if PART_COUNTS[kind] == 2:
        return [OPENING] + text + [CLOSING]
    return text


def enclosed_second(kind, text, outer):
    """The form of a formula that stands as the second one of a formula of the kind outer."""
    if kind == outer:
        return text
    return enclosed(kind, text)


def form_of(formula):
    """The form, as a list of bytes."""
    # Walked from its end, each node comes after the formulas that it is of, the first one on top.
    forms = []
    for kind, name in reversed(formula):
        if kind == PLAIN:
            text = list(name)
        elif kind == TURNED:
            text = [TILDE] + list(name)
        elif PART_COUNTS[kind] == 1:
            only = forms.pop()
            text = [KIND_SIGNS[kind]] + enclosed(only[0], only[1])
        else:
            first = forms.pop()
            second = forms.pop()
            text = enclosed(first[0], first[1]) + [KIND_SIGNS[kind]] + enclosed_second(second[0], second[1], kind)
        forms.append((kind, text))
    return forms.pop()[1]
