"""The calls on an object of ten formulas, and what they answer.

Each call is a function of the formulas held, the call's whole numbers and its
rows. It gives back the list of numbers that is answered; a refusal is a list of
its number alone, and leaves the formulas held as they were.
"""

from countedlogic.layout import split_calls
from countedlogic.names import is_name
from countedlogic.nodes import PART_COUNTS, PLAIN, TENSOR, TURNED, WHY_NOT
from countedlogic.nodes import atom_count, depth_of, dual_of, in_bounds, kind_count, name_count, names_of
from countedlogic.nodes import of_one, of_two, part_at, plain_atom, renamed
from countedlogic.reading import formula_in
from countedlogic.writing import form_of

HOW_MANY_HELD = 10
FIRST_NAME = (97,)

NOT_OF_ITS_KIND = -1
NO_SUCH_FORMULA = -2
NO_SUCH_PLACE = -4
OUT_OF_BOUNDS = -5


def all_held(numbers):
    """Whether each of the numbers is that of a formula held."""
    return all([0 <= number < HOW_MANY_HELD for number in numbers])


def counted(text):
    """A text, or a name, with how many bytes it has before it."""
    return [len(text)] + list(text)


def hold(held, k, formula):
    """Makes a formula formula k, if it's in bounds; what the calls that make one answer."""
    if not in_bounds(formula):
        return [OUT_OF_BOUNDS]
    held[k] = formula
    return [atom_count(formula)]


def call_read(held, numbers, rows):
    """read: k; text."""
    if not all_held(numbers):
        return [NO_SUCH_FORMULA]
    formula = formula_in(rows[0])
    if formula is None:
        return [NOT_OF_ITS_KIND]
    return hold(held, numbers[0], formula)


def call_form(held, numbers, rows):
    """form: k."""
    if not all_held(numbers):
        return [NO_SUCH_FORMULA]
    return counted(form_of(held[numbers[0]]))


def call_dual(held, numbers, rows):
    """dual: i, k."""
    if not all_held(numbers):
        return [NO_SUCH_FORMULA]
    return hold(held, numbers[1], dual_of(held[numbers[0]]))


def call_part(held, numbers, rows):
    """part: k; place."""
    if not all_held(numbers):
        return [NO_SUCH_FORMULA]
    formula = part_at(held[numbers[0]], rows[0])
    if formula is None:
        return [NO_SUCH_PLACE]
    return counted(form_of(formula))


def call_size(held, numbers, rows):
    """size: k."""
    if not all_held(numbers):
        return [NO_SUCH_FORMULA]
    formula = held[numbers[0]]
    counts = [kind_count(formula, kind) for kind in range(TENSOR, WHY_NOT + 1)]
    return [len(formula), atom_count(formula), depth_of(formula)] + counts


def call_atoms(held, numbers, rows):
    """atoms: k."""
    if not all_held(numbers):
        return [NO_SUCH_FORMULA]
    formula = held[numbers[0]]
    names = names_of(formula)
    answer = [len(names)]
    for name in names:
        answer.extend(counted(name))
        answer.append(formula.count((PLAIN, name)))
        answer.append(formula.count((TURNED, name)))
    return answer


def call_build(held, numbers, rows):
    """build: o, i, j, k."""
    if not all_held(numbers[1:]):
        return [NO_SUCH_FORMULA]
    kind = numbers[0]
    if not TENSOR <= kind <= WHY_NOT:
        return [NOT_OF_ITS_KIND]
    first = held[numbers[1]]
    if PART_COUNTS[kind] == 1:
        return hold(held, numbers[3], of_one(kind, first))
    return hold(held, numbers[3], of_two(kind, first, held[numbers[2]]))


def call_rename(held, numbers, rows):
    """rename: k; first, second."""
    if not all_held(numbers):
        return [NO_SUCH_FORMULA]
    if not is_name(rows[0]) or not is_name(rows[1]):
        return [NOT_OF_ITS_KIND]
    if rows[0] == rows[1]:
        return [0]
    k = numbers[0]
    old = tuple(rows[0])
    changed = name_count(held[k], old)
    held[k] = renamed(held[k], old, tuple(rows[1]))
    return [changed]


# By the call's number, in step with the shapes of the layout.
CALLS = (
    call_read,
    call_form,
    call_dual,
    call_part,
    call_size,
    call_atoms,
    call_build,
    call_rename,
)


def answers(calls):
    """What the calls in one list answer, each answer with how many numbers it has before it."""
    held = [plain_atom(FIRST_NAME) for number in range(HOW_MANY_HELD)]
    given = []
    for number, numbers, rows in split_calls(calls):
        answer = CALLS[number](held, numbers, rows)
        given.append(len(answer))
        given.extend(answer)
    return given
