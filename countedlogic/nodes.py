"""Formulas as lists of nodes: making them, counting in them, finding parts of them.

A formula is the list of its nodes: itself, then the nodes of the first formula
that it is of, then those of the second. So every walk is a loop over one list,
however deep the formula nests. A node is a pair: its kind, and its name as a
tuple of bytes (the empty one, if it's no atom). No formula is changed once it's made.
"""

TENSOR = 0
PAR = 1
WITH = 2
PLUS = 3
OF_COURSE = 4
WHY_NOT = 5
PLAIN = 6
TURNED = 7

# By kind: the kind of the dual, and how many formulas one of this kind is of.
DUAL_KINDS = (1, 0, 3, 2, 5, 4, 7, 6)
PART_COUNTS = (2, 2, 2, 2, 1, 1, 0, 0)

MOST_ATOMS = 60
MOST_NODES = 200
MOST_DEPTH = 40


def plain_atom(name):
    """The plain atom of a name, which is a tuple of bytes."""
    return [(PLAIN, name)]


def of_two(kind, first, second):
    """The formula of this kind of two formulas."""
    return [(kind, ())] + first + second


def of_one(kind, only):
    """The formula of this kind of one formula."""
    return [(kind, ())] + only


def dual_of(formula):
    """The dual: the same nodes in the same order, each of the opposite kind."""
    return [(DUAL_KINDS[kind], name) for kind, name in formula]


def renamed(formula, old, new):
    """The formula with the name new in each atom that has the name old."""
    return [(kind, new if name == old else name) for kind, name in formula]


def filled(formula, wanted, filling):
    """The formula filled with another one, the filling, for the wanted name."""
    turned_filling = dual_of(filling)
    nodes = []
    for kind, name in formula:
        if name != wanted:
            nodes.append((kind, name))
        elif kind == PLAIN:
            nodes.extend(filling)
        else:
            nodes.extend(turned_filling)
    return nodes


def kind_count(formula, wanted):
    """How many nodes are of the wanted kind."""
    return len([kind for kind, name in formula if kind == wanted])


def atom_count(formula):
    """How many nodes are atoms."""
    return kind_count(formula, PLAIN) + kind_count(formula, TURNED)


def name_count(formula, wanted):
    """How many atoms have the wanted name."""
    return len([name for kind, name in formula if name == wanted])


def names_of(formula):
    """The different names, in the order of texts."""
    return sorted(set([name for kind, name in formula if PART_COUNTS[kind] == 0]))


def depth_of(formula):
    """The depth."""
    # Walked from its end, each node comes after the formulas that it is of.
    depths = []
    for kind, name in reversed(formula):
        deepest = 0
        for side in range(PART_COUNTS[kind]):
            deepest = max(deepest, depths.pop())
        depths.append(deepest + 1)
    return depths.pop()


def in_bounds(formula):
    """Whether the formula has no more atoms, nodes and depth than one may have."""
    if len(formula) > MOST_NODES or atom_count(formula) > MOST_ATOMS:
        return False
    return depth_of(formula) <= MOST_DEPTH


def end_of(formula, start):
    """Where the formula that begins with the node at start ends."""
    end = start
    missing = 1
    while missing > 0:
        missing += PART_COUNTS[formula[end][0]] - 1
        end += 1
    return end


def part_at(formula, place):
    """The formula at a place; None if the list is no place in the formula."""
    start = 0
    for side in place:
        if not 0 <= side < PART_COUNTS[formula[start][0]]:
            return None
        start += 1
        if side == 1:
            start = end_of(formula, start)
    return formula[start:end_of(formula, start)]
