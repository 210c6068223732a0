"""The calls on an object of ten formulas, and what they answer.

Each call is a function of the formulas held, the call's whole numbers and its
rows. It gives back the list of numbers that is answered; a refusal is a list of
its number alone, and leaves the formulas held as they were.
"""

from countedlogic.layout import split_calls
from countedlogic.matching import fillings_for, first_difference
from countedlogic.names import is_name
from countedlogic.nodes import PART_COUNTS, PLAIN, TENSOR, TURNED, WHY_NOT
from countedlogic.nodes import atom_count, depth_of, dual_of, filled, in_bounds, kind_count, name_count, names_of
from countedlogic.nodes import of_one, of_two, part_at, plain_atom, renamed
from countedlogic.reading import formula_in
from countedlogic.sequents import is_balanced, is_multiplicative, sequent_form, sequent_in
from countedlogic.signs import BLANK
from countedlogic.texts import joined
from countedlogic.truth import choice_in, first_false, truth_under
from countedlogic.writing import form_of

HOW_MANY_HELD = 10
FIRST_NAME = (97,)
MOST_NAMES_TRIED = 12

NOT_OF_ITS_KIND = -1
NO_SUCH_FORMULA = -2
NO_SUCH_PLACE = -4
OUT_OF_BOUNDS = -5
TOO_MANY_NAMES = -7
# Stands where a refusal is asked for and there is none.
NOT_REFUSED = 0


def all_held(numbers):
    """Whether each of the numbers is that of a formula held."""
    return all([0 <= number < HOW_MANY_HELD for number in numbers])


def counted(text):
    """A text, a name or a place, with how many bytes or numbers it has before it."""
    return [len(text)] + list(text)


def hold(held, k, formula):
    """Makes a formula formula k, if it's in bounds; what the calls that make one answer."""
    if not in_bounds(formula):
        return [OUT_OF_BOUNDS]
    held[k] = formula
    return [atom_count(formula)]


def call_read(held, numbers, rows):
    """read: k; text."""
    if not all_held(numbers):
        return [NO_SUCH_FORMULA]
    formula = formula_in(rows[0])
    if formula is None:
        return [NOT_OF_ITS_KIND]
    return hold(held, numbers[0], formula)


def call_form(held, numbers, rows):
    """form: k."""
    if not all_held(numbers):
        return [NO_SUCH_FORMULA]
    return counted(form_of(held[numbers[0]]))


def call_dual(held, numbers, rows):
    """dual: i, k."""
    if not all_held(numbers):
        return [NO_SUCH_FORMULA]
    return hold(held, numbers[1], dual_of(held[numbers[0]]))


def call_part(held, numbers, rows):
    """part: k; place."""
    if not all_held(numbers):
        return [NO_SUCH_FORMULA]
    formula = part_at(held[numbers[0]], rows[0])
    if formula is None:
        return [NO_SUCH_PLACE]
    return counted(form_of(formula))


def call_size(held, numbers, rows):
    """size: k."""
    if not all_held(numbers):
        return [NO_SUCH_FORMULA]
    formula = held[numbers[0]]
    counts = [kind_count(formula, kind) for kind in range(TENSOR, WHY_NOT + 1)]
    return [len(formula), atom_count(formula), depth_of(formula)] + counts


def call_atoms(held, numbers, rows):
    """atoms: k."""
    if not all_held(numbers):
        return [NO_SUCH_FORMULA]
    formula = held[numbers[0]]
    names = names_of(formula)
    answer = [len(names)]
    for name in names:
        answer.extend(counted(name))
        answer.append(formula.count((PLAIN, name)))
        answer.append(formula.count((TURNED, name)))
    return answer


def call_build(held, numbers, rows):
    """build: o, i, j, k."""
    if not all_held(numbers[1:]):
        return [NO_SUCH_FORMULA]
    kind = numbers[0]
    if not TENSOR <= kind <= WHY_NOT:
        return [NOT_OF_ITS_KIND]
    first = held[numbers[1]]
    if PART_COUNTS[kind] == 1:
        return hold(held, numbers[3], of_one(kind, first))
    return hold(held, numbers[3], of_two(kind, first, held[numbers[2]]))


def call_rename(held, numbers, rows):
    """rename: k; first, second."""
    if not all_held(numbers):
        return [NO_SUCH_FORMULA]
    if not is_name(rows[0]) or not is_name(rows[1]):
        return [NOT_OF_ITS_KIND]
    if rows[0] == rows[1]:
        return [0]
    k = numbers[0]
    old = tuple(rows[0])
    changed = name_count(held[k], old)
    held[k] = renamed(held[k], old, tuple(rows[1]))
    return [changed]


def call_fill(held, numbers, rows):
    """fill: i, j, k; name."""
    if not all_held(numbers):
        return [NO_SUCH_FORMULA]
    if not is_name(rows[0]):
        return [NOT_OF_ITS_KIND]
    name = tuple(rows[0])
    formula = held[numbers[0]]
    made = filled(formula, name, held[numbers[1]])
    if not in_bounds(made):
        return [OUT_OF_BOUNDS]
    held[numbers[2]] = made
    return [name_count(formula, name)]


def call_truth(held, numbers, rows):
    """truth: k; choice."""
    if not all_held(numbers):
        return [NO_SUCH_FORMULA]
    choice = choice_in(rows[0])
    if choice is None:
        return [NOT_OF_ITS_KIND]
    return [truth_under(held[numbers[0]], choice)]


def call_always(held, numbers, rows):
    """always: k."""
    if not all_held(numbers):
        return [NO_SUCH_FORMULA]
    formula = held[numbers[0]]
    if len(names_of(formula)) > MOST_NAMES_TRIED:
        return [TOO_MANY_NAMES]
    names = first_false(formula)
    if names is None:
        return [1, 0]
    return [0] + counted(joined(names, [BLANK]))


def call_same(held, numbers, rows):
    """same: i, j."""
    if not all_held(numbers):
        return [NO_SUCH_FORMULA]
    place = first_difference(held[numbers[0]], held[numbers[1]])
    if place is None:
        return [1, 0]
    return [0] + counted(place)


def call_case(held, numbers, rows):
    """case: i, j."""
    if not all_held(numbers):
        return [NO_SUCH_FORMULA]
    fillings = fillings_for(held[numbers[0]], held[numbers[1]])
    if fillings is None:
        return [0, 0]
    answer = [1, len(fillings)]
    for name in sorted(fillings):
        answer.extend(counted(name))
        answer.extend(counted(form_of(fillings[name])))
    return answer


def sequent_refusal(sequent):
    """The refusal of what was read as a sequent."""
    if sequent is None:
        return NOT_OF_ITS_KIND
    if not all([in_bounds(formula) for formula in sequent]):
        return OUT_OF_BOUNDS
    return NOT_REFUSED


def call_sequent(held, numbers, rows):
    """sequent: text."""
    sequent = sequent_in(rows[0])
    refusal = sequent_refusal(sequent)
    if refusal != NOT_REFUSED:
        return [refusal]
    atoms = sum([atom_count(formula) for formula in sequent])
    balanced = 1 if is_balanced(sequent) else 0
    multiplicative = 1 if is_multiplicative(sequent) else 0
    return [len(sequent), atoms, balanced, multiplicative] + counted(sequent_form(sequent))


def call_bag(held, numbers, rows):
    """bag: one, other."""
    both = [sequent_in(row) for row in rows]
    for sequent in both:
        refusal = sequent_refusal(sequent)
        if refusal != NOT_REFUSED:
            return [refusal]
    return [1 if sorted(both[0]) == sorted(both[1]) else 0]


# By the call's number, in step with the shapes of the layout.
CALLS = (
    call_read,
    call_form,
    call_dual,
    call_part,
    call_size,
    call_atoms,
    call_build,
    call_rename,
    call_fill,
    call_truth,
    call_always,
    call_same,
    call_case,
    call_sequent,
    call_bag,
)


def answers(calls):
    """What the calls in one list answer, each answer with how many numbers it has before it."""
    held = [plain_atom(FIRST_NAME) for number in range(HOW_MANY_HELD)]
    given = []
    for number, numbers, rows in split_calls(calls):
        answer = CALLS[number](held, numbers, rows)
        given.append(len(answer))
        given.extend(answer)
    return given
