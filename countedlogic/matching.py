"""Two formulas held against one another."""

from countedlogic.nodes import PART_COUNTS, TURNED, dual_of, end_of


def place_of(formula, wanted):
    """The place of the formula that begins with the node at wanted."""
    place = []
    start = 0
    while start < wanted:
        side = 0
        start += 1
        end = end_of(formula, start)
        if end <= wanted:
            side = 1
            start = end
        place.append(side)
    return place


def first_difference(one, other):
    """The place of the first difference; None if the formulas are the same."""
    # Up to their first difference two formulas have the same nodes at the same places.
    for position, pair in enumerate(zip(one, other)):
        if pair[0] != pair[1]:
            return place_of(one, position)
    return None


def fillings_for(pattern, formula):
    """For each name of the pattern what's filled in for it, if the formula is a case of it; else None."""
    fillings = {}
    start = 0
    for kind, name in pattern:
        if PART_COUNTS[kind] > 0:
            if formula[start][0] != kind:
                return None
            start += 1
        else:
            end = end_of(formula, start)
            part = formula[start:end]
            filling = dual_of(part) if kind == TURNED else part
            if fillings.setdefault(name, filling) != filling:
                return None
            start = end
    return fillings
