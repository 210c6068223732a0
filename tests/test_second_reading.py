"""Points 1 to 6 once more, against a second program written from the document by recursion."""

import random
import re
import sys
import unittest

from tests.helper import always, ask, atoms, bag, build, case, dual, fill, form, octets, part, read, same, sequent, size
from tests.helper import truth

TOKEN = re.compile(r" +|[a-z0-9]+|[~*|&+!?()]|-o")
NAME = re.compile(r"[a-z][a-z0-9]{0,11}\Z")
TURN = {"*": "|", "|": "*", "&": "+", "+": "&", "!": "?", "?": "!", "plain": "turned", "turned": "plain"}
SIGNS = "*|&+"


class NoFormula(Exception):
    pass


def tokens_of(text):
    tokens = []
    position = 0
    while position < len(text):
        found = TOKEN.match(text, position)
        if not found or found.group()[0] in "0123456789" or found.group()[0].isalpha() and not NAME.match(found.group()):
            raise NoFormula
        if found.group()[0] != " ":
            tokens.append(found.group())
        position = found.end()
    return tokens + ["end"]


def dual_of(formula):
    if formula[0] in ("plain", "turned"):
        return (TURN[formula[0]], formula[1])
    return (TURN[formula[0]],) + tuple(dual_of(part) for part in formula[1:])


class Reader:
    """Each method reads from the token at self.at, with so many signs open around it."""

    def __init__(self, text):
        if len(text) > 2000:
            raise NoFormula
        self.tokens = tokens_of(text)
        self.at = 0

    def take(self):
        self.at += 1
        return self.tokens[self.at - 1]

    def check(self, around):
        if around > 100:
            raise NoFormula

    def formula(self, around):
        first = self.chain(around, "")
        if self.tokens[self.at] != "-o":
            return first
        self.take()
        self.check(around + 1)
        return ("|", dual_of(first), self.formula(around + 1))

    def chain(self, around, wanted):
        first = self.part(around)
        sign = self.tokens[self.at]
        if sign not in tuple(SIGNS):
            return first
        if wanted not in ("", sign):
            raise NoFormula
        self.take()
        self.check(around + 1)
        return (sign, first, self.chain(around + 1, sign))

    def part(self, around):
        token = self.take()
        if token != "end" and NAME.match(token):
            return ("plain", token)
        if token not in ("~", "!", "?", "("):
            raise NoFormula
        self.check(around + 1)
        if token == "(":
            inner = self.formula(around + 1)
            if self.take() != ")":
                raise NoFormula
            return inner
        inner = self.part(around + 1)
        return dual_of(inner) if token == "~" else (token, inner)


def formula_in(text):
    reader = Reader(text)
    formula = reader.formula(0)
    if reader.take() != "end":
        raise NoFormula
    return formula


def nodes_of(formula):
    if formula[0] in ("plain", "turned"):
        return [formula]
    return [formula] + [node for part in formula[1:] for node in nodes_of(part)]


def depth_of(formula):
    return 1 if formula[0] in ("plain", "turned") else 1 + max(depth_of(part) for part in formula[1:])


def form_of(formula, outer="", side=""):
    kind = formula[0]
    if kind in ("plain", "turned"):
        return formula[1] if kind == "plain" else "~" + formula[1]
    if len(formula) == 2:
        return kind + form_of(formula[1], kind, "first")
    text = form_of(formula[1], kind, "first") + kind + form_of(formula[2], kind, "second")
    return "(" + text + ")" if side == "first" or side == "second" and outer != kind else text


def counted(text):
    return [len(text)] + octets(text)


def atoms_answer(formula):
    nodes = nodes_of(formula)
    names = sorted({node[1] for node in nodes if node[0] in ("plain", "turned")})
    answer = [len(names)]
    for name in names:
        answer += counted(name) + [nodes.count(("plain", name)), nodes.count(("turned", name))]
    return answer


def size_answer(formula):
    kinds = [node[0] for node in nodes_of(formula)]
    atoms_in_all = kinds.count("plain") + kinds.count("turned")
    return [len(kinds), atoms_in_all, depth_of(formula)] + [kinds.count(kind) for kind in "*|&+!?"]


def part_answer(formula, place):
    for side in place:
        if formula[0] in ("plain", "turned") or side not in range(len(formula) - 1):
            return [-4]
        formula = formula[1 + side]
    return counted(form_of(formula))


def expected_answers(text, place):
    """What read, form, size, atoms, part and dual's form answer, if formula 0 is a beforehand."""
    formula = ("plain", "a")
    try:
        found = formula_in(text)
        atoms_in_all, nodes = size_answer(found)[1], len(nodes_of(found))
        if atoms_in_all > 60 or nodes > 200 or depth_of(found) > 40:
            first = [-5]
        else:
            first = [atoms_in_all]
            formula = found
    except NoFormula:
        first = [-1]
    return [first, counted(form_of(formula)), size_answer(formula), atoms_answer(formula), part_answer(formula, place),
            [size_answer(formula)[1]], counted(form_of(dual_of(formula)))]


def made_text(source, room):
    """A formula's text, with about so many signs."""
    blank = " " * (source.random() < 0.1)
    if room <= 0:
        return blank + source.choice(("a", "b", "ab", "c1", "abcdefghijkl", "o"))
    kind = source.randrange(10)
    if kind < 3:
        return "~!?"[kind] + blank + made_part(source, room - 1)
    if kind < 5:
        left = source.randrange(room)
        return made_chain(source, left) + blank + "-o" + made_text(source, room - 1 - left)
    return made_chain(source, room)


def made_part(source, room):
    if room <= 0:
        return made_text(source, 0)
    if source.random() < 0.3:
        return source.choice("~!?") + made_part(source, room - 1)
    return "(" + made_text(source, room - 1) + ")"


def made_chain(source, room):
    count = source.choice((1, 2, 2, 2, 3, 5))
    sign = source.choice(SIGNS)
    return sign.join(made_part(source, (room - count + 1) // count) for part in range(count))


def spoiled(source, text):
    """The text with a byte left out, put in or exchanged."""
    at = source.randrange(len(text))
    sign = source.choice("ab1 ~*|&+!?()-o_A,")
    return source.choice((text[:at] + text[at + 1:], text[:at] + sign + text[at:], text[:at] + sign + text[at + 1:]))


def near_the_limit(source):
    """A text with about 100 signs open at its innermost place."""
    opened = ""
    closed = ""
    for level in range(source.randrange(70, 103)):
        pair = source.choice((("(", ")"), ("(", ")"), ("~(", ")"), ("~", ""), ("a*(", ")"), ("(", ")*b"), ("b -o (", ")")))
        if pair[0].startswith(("a", "b")) and opened and opened[-1] != "(" or pair[1] == ")*b" and opened[-1:] != "(":
            pair = ("(", ")")
        opened += pair[0]
        closed = pair[1] + closed
    return opened + "c" + closed


class SecondReading(unittest.TestCase):
    def compare(self, text, place):
        given = ask(read(0, text), form(0), size(0), atoms(0), part(0, place), dual(0, 9), form(9))
        self.assertEqual(given, expected_answers(text, place), (text, place))
        return given[0][0]

    def compare_all(self, texts, source):
        """Compares all; tells how often each refusal and how often a formula came."""
        seen = {-1: 0, -5: 0, 0: 0}
        for text in texts:
            place = [source.choice((0, 0, 0, 1, 1, 1, 2, -1)) for step in range(source.randrange(5))]
            seen[min(self.compare(text, place), 0)] += 1
        return seen

    def test_made_texts(self):
        source = random.Random(1)
        seen = self.compare_all([made_text(source, source.randrange(60)) for number in range(1500)], source)
        self.assertGreater(seen[0], 1000)

    def test_spoiled_texts(self):
        source = random.Random(2)
        seen = self.compare_all([spoiled(source, made_text(source, 12)) for number in range(2500)], source)
        self.assertGreater(seen[0], 300)
        self.assertGreater(seen[-1], 300)

    def test_near_the_limit(self):
        source = random.Random(3)
        seen = self.compare_all([near_the_limit(source) for number in range(800)], source)
        self.assertGreater(seen[0] + seen[-5], 50)
        self.assertGreater(seen[-1], 50)

    def test_near_the_bounds(self):
        source = random.Random(4)
        seen = self.compare_all([made_text(source, source.randrange(60, 250)) for number in range(400)], source)
        self.assertGreater(seen[0], 30)
        self.assertGreater(seen[-5], 30)

    def test_few_calls_within_one_another(self):
        # However deep a text or a formula nests, the program doesn't.
        texts = ["(" * 100 + "a" + ")" * 100, "!" * 100 + "a", "!" * 39 + "a", "*".join(["a"] * 40), "(" * 2000]
        frame = sys._getframe()
        depth = 0
        while frame:
            depth += 1
            frame = frame.f_back
        limit = sys.getrecursionlimit()
        sys.setrecursionlimit(depth + 30)
        try:
            for text in texts:
                ask(read(0, text), form(0), dual(0, 1), part(0, [0] * 30), size(0), atoms(0), fill(0, 0, 2, "a"),
                    truth(0, "a"), always(0), same(0, 1), case(0, 0), sequent(text), bag(text, text), build(4, 0, 0, 3))
        finally:
            sys.setrecursionlimit(limit)


if __name__ == "__main__":
    unittest.main()
