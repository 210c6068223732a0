"""Lines of all the calls, against a second program written from the document by recursion."""

import itertools
import random
import re
import unittest

from tests.helper import always, ask, atoms, bag, build, case, dual, fill, form, part, read, rename, same, sequent, size
from tests.helper import truth
from tests.test_second_reading import NAME, NoFormula, atoms_answer, counted, depth_of, dual_of, form_of, formula_in
from tests.test_second_reading import made_text, nodes_of, part_answer, size_answer, spoiled

ATOMS = ("plain", "turned")
HELD = range(10)


def in_bounds(formula):
    return size_answer(formula)[1] <= 60 and len(nodes_of(formula)) <= 200 and depth_of(formula) <= 40


def names_in(formula):
    return sorted({node[1] for node in nodes_of(formula) if node[0] in ATOMS})


def filled(formula, fillings):
    """With several names filled in at once."""
    if formula[0] not in ATOMS:
        return (formula[0],) + tuple(filled(inner, fillings) for inner in formula[1:])
    if formula[1] not in fillings:
        return formula
    return fillings[formula[1]] if formula[0] == "plain" else dual_of(fillings[formula[1]])


def is_true(formula, choice):
    if formula[0] in ATOMS:
        return (formula[1] in choice) == (formula[0] == "plain")
    sides = [is_true(inner, choice) for inner in formula[1:]]
    return all(sides) if formula[0] in "*&" else any(sides)


def difference(one, other):
    """The place of the first difference, or None."""
    if one[0] != other[0] or one[0] in ATOMS:
        return None if one == other else []
    for side in range(len(one) - 1):
        place = difference(one[1 + side], other[1 + side])
        if place is not None:
            return [side] + place
    return None


def pairs(pattern, formula):
    """What stands where the pattern's atoms stand, as far as both go down together."""
    if pattern[0] in ATOMS:
        return [(pattern[1], formula if pattern[0] == "plain" else dual_of(formula))]
    if pattern[0] != formula[0]:
        return []
    return [pair for inner, other in zip(pattern[1:], formula[1:]) for pair in pairs(inner, other)]


def sequent_in(text):
    """The formulas, or the refusal."""
    if text.strip(" ") == "":
        return []
    texts = text.split(",")
    if len(texts) > 20:
        return -1
    try:
        formulas = [formula_in(one) for one in texts]
    except NoFormula:
        return -1
    return formulas if all(map(in_bounds, formulas)) else -5


class Second:
    """The object of ten formulas; a method for each call, named like it."""

    def __init__(self):
        self.held = [("plain", "a") for k in HELD]

    def make(self, k, formula):
        if not in_bounds(formula):
            return [-5]
        self.held[k] = formula
        return [size_answer(formula)[1]]

    def read(self, k, text):
        try:
            return [-2] if k not in HELD else self.make(k, formula_in(text))
        except NoFormula:
            return [-1]

    def form(self, k):
        return [-2] if k not in HELD else counted(form_of(self.held[k]))

    def dual(self, i, k):
        return [-2] if i not in HELD or k not in HELD else self.make(k, dual_of(self.held[i]))

    def part(self, k, place):
        return [-2] if k not in HELD else part_answer(self.held[k], place)

    def size(self, k):
        return [-2] if k not in HELD else size_answer(self.held[k])

    def atoms(self, k):
        return [-2] if k not in HELD else atoms_answer(self.held[k])

    def build(self, o, i, j, k):
        if not {i, j, k} <= set(HELD):
            return [-2]
        if o not in range(6):
            return [-1]
        return self.make(k, ("*|&+!?"[o], self.held[i]) + ((self.held[j],) if o < 4 else ()))

    def rename(self, k, first, second):
        if k not in HELD:
            return [-2]
        if not NAME.match(first) or not NAME.match(second):
            return [-1]
        count = 0 if first == second else [node[1:] for node in nodes_of(self.held[k])].count((first,))
        self.held[k] = filled(self.held[k], {first: ("plain", second)})
        return [count]

    def fill(self, i, j, k, name):
        if not {i, j, k} <= set(HELD):
            return [-2]
        if not NAME.match(name):
            return [-1]
        count = [node[1:] for node in nodes_of(self.held[i])].count((name,))
        made = self.make(k, filled(self.held[i], {name: self.held[j]}))
        return made if made == [-5] else [count]

    def truth(self, k, choice):
        if k not in HELD:
            return [-2]
        if not re.match(r"([a-z][a-z0-9]{0,11}( [a-z][a-z0-9]{0,11})*)?\Z", choice):
            return [-1]
        return [int(is_true(self.held[k], choice.split()))]

    def always(self, k):
        if k not in HELD:
            return [-2]
        names = names_in(self.held[k])
        if len(names) > 12:
            return [-7]
        for taken in itertools.product((False, True), repeat=len(names)):
            choice = list(itertools.compress(names, taken))
            if not is_true(self.held[k], choice):
                return [0] + counted(" ".join(choice))
        return [1, 0]

    def same(self, i, j):
        if not {i, j} <= set(HELD):
            return [-2]
        place = difference(self.held[i], self.held[j])
        return [1, 0] if place is None else [0, len(place)] + place

    def case(self, i, j):
        if not {i, j} <= set(HELD):
            return [-2]
        fillings = dict(pairs(self.held[i], self.held[j]))
        if set(fillings) != set(names_in(self.held[i])) or filled(self.held[i], fillings) != self.held[j]:
            return [0, 0]
        answer = [1, len(fillings)]
        for name in sorted(fillings):
            answer += counted(name) + counted(form_of(fillings[name]))
        return answer

    def sequent(self, text):
        formulas = sequent_in(text)
        if isinstance(formulas, int):
            return [formulas]
        nodes = [node for formula in formulas for node in nodes_of(formula)]
        plain = sorted(node[1] for node in nodes if node[0] == "plain")
        turned = sorted(node[1] for node in nodes if node[0] == "turned")
        multiplicative = not {node[0] for node in nodes} & set("&+!?")
        whole = ", ".join(form_of(formula) for formula in formulas)
        return [len(formulas), len(plain) + len(turned), int(plain == turned), int(multiplicative)] + counted(whole)

    def bag(self, one, other):
        one = sequent_in(one)
        other = sequent_in(other)
        for formulas in (one, other):
            if isinstance(formulas, int):
                return [formulas]
        for formula in one:
            if formula not in other:
                return [0]
            other.remove(formula)
        return [int(other == [])]


CALLS = {"read": read, "form": form, "dual": dual, "part": part, "size": size, "atoms": atoms, "build": build,
         "rename": rename, "fill": fill, "truth": truth, "always": always, "same": same, "case": case,
         "sequent": sequent, "bag": bag}


class Maker:
    """Makes calls; some of them are refused."""

    def __init__(self, seed):
        self.source = random.Random(seed)

    def number(self):
        return self.source.choice((-1, 10)) if self.source.random() < 0.02 else self.source.choice((0, 1, 2, 3, 4))

    def name(self):
        return self.source.choice(("a", "b", "ab", "c1", "abcdefghijkl", "o", "a", "b", "zz", "", "1", "A", "a b"))

    def text(self):
        text = made_text(self.source, self.source.choice((0, 1, 2, 3, 4, 6, 10, 40)))
        return spoiled(self.source, text) if self.source.random() < 0.05 else text

    def choice(self):
        names = ("a", "b", "ab", "c1", "abcdefghijkl", "o", "zz")
        text = " ".join(self.source.choice(names) for name in range(self.source.randrange(6)))
        return spoiled(self.source, text) if text and self.source.random() < 0.1 else text

    def texts(self):
        count = self.source.choice((0, 1, 2, 2, 3, 5, 20, 21))
        return [made_text(self.source, self.source.choice((0, 0, 1, 2, 3))) for text in range(count)]

    def sequent(self):
        text = ",".join(self.texts())
        if text and self.source.random() < 0.1:
            text = spoiled(self.source, text)
        return text if self.source.random() < 0.95 else text + "," + "!" * 41 + "a"

    def two_sequents(self):
        texts = self.texts()
        other = list(texts)
        self.source.shuffle(other)
        if other and self.source.random() < 0.4:
            other[0] = self.source.choice(other + ["a", "~a", "(" + other[0] + ")"])
        return (",".join(texts), ",".join(other)) if self.source.random() < 0.8 else (self.sequent(), self.sequent())

    def arguments(self, name):
        if name == "read":
            return (self.number(), self.text())
        if name in ("form", "size", "atoms", "always"):
            return (self.number(),)
        if name in ("dual", "same", "case"):
            return (self.number(), self.number())
        if name == "part":
            return (self.number(), [self.source.choice((0, 0, 1, 1, 2)) for step in range(self.source.randrange(5))])
        if name == "build":
            return (self.source.randrange(-1, 7), self.number(), self.number(), self.number())
        if name == "rename":
            return (self.number(), self.name(), self.name())
        if name == "fill":
            return (self.number(), self.number(), self.number(), self.name())
        if name == "truth":
            return (self.number(), self.choice())
        return (self.sequent(),) if name == "sequent" else self.two_sequents()

    def line(self, names, most):
        line = []
        length = 0
        while len(line) < most:
            name = self.source.choice(names)
            arguments = self.arguments(name)
            # No longer text is handed in.
            if max([len(value) for value in arguments if isinstance(value, str)] + [0]) > 2100:
                continue
            call = CALLS[name](*arguments)
            length += len(call)
            if length > 17000:
                break
            line.append((name, arguments, call))
        return line


class SecondCalls(unittest.TestCase):
    def compare(self, line):
        """Compares a line's answers; gives back the first number of each with its call's name."""
        second = Second()
        given = ask(*[call for name, arguments, call in line])
        seen = []
        for answer, (name, arguments, call) in zip(given, line):
            self.assertEqual(answer, getattr(second, name)(*arguments), (name, arguments, second.held))
            seen.append((name, min(answer[0], 1)))
        self.assertEqual(ask(*[form(k) for k in HELD]), [[1, 97]] * 10)
        return seen

    def compare_lines(self, seed, names, lines, most):
        maker = Maker(seed)
        seen = []
        for line in range(lines):
            seen += self.compare(maker.line(names, most))
        return seen

    def test_all_calls(self):
        seen = self.compare_lines(1, list(CALLS), 40, 240)
        for name in CALLS:
            self.assertGreater(len([pair for pair in seen if pair[0] == name]), 50, name)

    def test_short_lines(self):
        self.compare_lines(2, list(CALLS), 400, 12)

    def test_fill_and_case(self):
        seen = self.compare_lines(3, ["read", "read", "fill", "case", "same", "form"], 90, 100)
        for pair in (("fill", -5), ("fill", -1), ("fill", 0), ("fill", 1), ("case", 0), ("case", 1), ("same", 0), ("same", 1)):
            self.assertGreater(seen.count(pair), 20, pair)

    def test_truth_and_always(self):
        seen = self.compare_lines(4, ["read", "read", "build", "truth", "always"], 60, 60)
        for pair in (("truth", -1), ("truth", 0), ("truth", 1), ("always", 0), ("always", 1)):
            self.assertGreater(seen.count(pair), 20, pair)

    def test_sequents_and_bags(self):
        seen = self.compare_lines(5, ["sequent", "bag"], 100, 20)
        for pair in (("sequent", -1), ("sequent", -5), ("sequent", 0), ("sequent", 1), ("bag", -1), ("bag", 0), ("bag", 1)):
            self.assertGreater(seen.count(pair), 20, pair)

    def test_always_with_many_names(self):
        source = random.Random(6)
        names = ["n", "n0", "n00", "n1", "m", "m5", "na", "o", "p", "q", "qq", "r", "r0"]
        for number in range(120):
            some = source.sample(names, source.randrange(7, 14))
            clauses = [[source.choice("  ~").strip() + name for name in source.sample(some, source.randrange(3, 6))]
                       for clause in range(6)]
            text = "&".join("(" + "+".join(clause) + ")" for clause in clauses)
            text = "(%s)|%s" % (text, "|".join("~" * source.randrange(2) + name for name in some))
            self.compare([("read", (0, text), read(0, text)), ("always", (0,), always(0))])


if __name__ == "__main__":
    unittest.main()
