"""Calls as they are handed in, and answers taken apart again."""

from countedlogic.formulas import answers

FAR = 10 ** 18
# Numbers that are none of a formula held.
NOT_HELD = (-1, 10, -2, 11, 255, FAR, -FAR)
# Texts that are no names.
NO_NAMES = ("", "1", "1a", "A", "aB", "a b", " a", "a ", "~a", "a*b", "abcdefghijklm", "a" * 2100, "a-", "a_b",
            [96], [123], [97, 47], [97, 58], [97, 96], [97, 123], [0], [97, 0], [255], [225])


def octets(text):
    return list(text.encode("ascii")) if isinstance(text, str) else list(text)


def row(values):
    values = octets(values)
    return [len(values)] + values


def read(k, text):
    return [0, k] + row(text)


def form(k):
    return [1, k]


def dual(i, k):
    return [2, i, k]


def part(k, place):
    return [3, k, len(place)] + list(place)


def size(k):
    return [4, k]


def atoms(k):
    return [5, k]


def build(o, i, j, k):
    return [6, o, i, j, k]


def rename(k, first, second):
    return [7, k] + row(first) + row(second)


def fill(i, j, k, name):
    return [8, i, j, k] + row(name)


def truth(k, choice):
    return [9, k] + row(choice)


def always(k):
    return [10, k]


def same(i, j):
    return [11, i, j]


def case(i, j):
    return [12, i, j]


def sequent(text):
    return [13] + row(text)


def bag(one, other):
    return [14] + row(one) + row(other)


def ask(*calls):
    """The answer of each call, all on one object."""
    flat = []
    for call in calls:
        flat.extend(call)
    given = answers(flat)
    split = []
    position = 0
    while position < len(given):
        end = position + 1 + given[position]
        split.append(given[position + 1:end])
        position = end
    if position != len(given) or len(split) != len(calls):
        raise AssertionError("the counts don't fit the answers: %r" % given)
    return split


def last(*calls):
    """The last call's answer."""
    return ask(*calls)[-1]


def text_in(answer):
    """The text of an answer that is one text with its length before it."""
    if answer[0] != len(answer) - 1:
        raise AssertionError("no counted text: %r" % answer)
    return bytes(answer[1:]).decode("ascii")


def form_after(k, *calls):
    """The form of formula k when the calls are done."""
    return text_in(last(*calls, form(k)))


def form_read(text):
    """The form of what a text is read as."""
    return form_after(3, read(3, text))


def forms_of_all(*calls):
    """The forms of the ten formulas when the calls are done."""
    given = ask(*calls, *[form(k) for k in range(10)])
    return [text_in(answer) for answer in given[-10:]]


def chain(count, sign="*"):
    """A chain of so many parts a."""
    return sign.join(["a"] * count)


def whole_tree(levels):
    """A formula with 2 ** (levels - 1) atoms and this depth."""
    text = "a"
    for level in range(levels - 1):
        text = "(" + text + ")*(" + text + ")"
    return text
