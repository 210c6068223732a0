"""Points 2 and 3: form and dual."""

import unittest

from tests.helper import NOT_HELD, ask, build, chain, dual, form, form_after, form_read, forms_of_all, last, read, size
from tests.helper import text_in

SIGNS = "*|&+"
PARTNERS = {"*": "|", "|": "*", "&": "+", "+": "&", "!": "?", "?": "!"}


class Form(unittest.TestCase):
    def check(self, text, expected):
        self.assertEqual(form_read(text), expected, text)
        self.assertEqual(form_read(expected), expected, expected)

    def test_at_the_beginning(self):
        self.assertEqual(last(form(0)), [1, 97])

    def test_count_and_bytes(self):
        self.assertEqual(last(read(2, " ~ab1 * c "), form(2)), [6, 126, 97, 98, 49, 42, 99])

    def test_atoms(self):
        self.check("(a)", "a")
        self.check("((~(b2)))", "~b2")

    def test_first_side(self):
        for outer in SIGNS:
            for inner in SIGNS:
                self.check("(a%sb)%sc" % (inner, outer), "(a%sb)%sc" % (inner, outer))
            self.check("(a)%sb" % outer, "a%sb" % outer)
            self.check("(~a)%sb" % outer, "~a%sb" % outer)
            self.check("(!a)%sb" % outer, "!a%sb" % outer)
            self.check("(?a)%sb" % outer, "?a%sb" % outer)

    def test_second_side(self):
        for outer in SIGNS:
            for inner in SIGNS:
                if inner == outer:
                    self.check("a%s(b%sc)" % (outer, inner), "a%sb%sc" % (outer, inner))
                else:
                    self.check("a%s(b%sc)" % (outer, inner), "a%s(b%sc)" % (outer, inner))
            self.check("a%s(b)" % outer, "a%sb" % outer)
            self.check("a%s(~b)" % outer, "a%s~b" % outer)
            self.check("a%s(!b)" % outer, "a%s!b" % outer)
            self.check("a%s(?b)" % outer, "a%s?b" % outer)

    def test_behind_of_course_and_why_not(self):
        for prefix in "!?":
            for sign in SIGNS:
                self.check("%s(a%sb)" % (prefix, sign), "%s(a%sb)" % (prefix, sign))
            for inner in ("a", "~a", "!a", "?a", "?(a*b)"):
                self.check("%s(%s)" % (prefix, inner), prefix + inner)

    def test_deeper(self):
        self.check("(a*(b*c))*(d*(e|f))", "(a*b*c)*d*(e|f)")
        self.check("!(a|(b|!(c&(d&e))))", "!(a|b|!(c&d&e))")
        self.check("((a+b)+(c+d))+((e+f)+(g+h))", "((a+b)+c+d)+(e+f)+g+h")

    def test_deepest(self):
        for text in ("!" * 39 + "a", chain(40), "(" * 38 + "a*b" + ")*c" * 38):
            self.check(text, text)
        twisted = "a"
        for level in range(39):
            twisted = "b%s(%s)" % ("*|"[level % 2], twisted) if level else "b*a"
        self.check(twisted, twisted)

    def test_longest(self):
        atom = "~abcdefghijkl"
        text = "(%s)*%s" % ("|".join([atom] * 30), "*".join([atom] * 30))
        self.check(text, text)

    def test_built_formulas_read_again(self):
        for o in range(4):
            for p in range(4):
                calls = [read(1, "b"), read(2, "c"), build(p, 1, 2, 3), build(o, 3, 0, 4), build(o, 0, 3, 5)]
                for k in (4, 5):
                    text = form_after(k, *calls)
                    self.assertEqual(form_read(text), text)
                    self.assertEqual(last(*calls, size(k)), last(read(k, text), size(k)))

    def test_refusals(self):
        for k in NOT_HELD:
            self.assertEqual(last(form(k)), [-2])

    def test_changes_nothing(self):
        self.assertEqual(forms_of_all(read(3, "a*b"), form(3), form(4), form(10)), ["a"] * 3 + ["a*b"] + ["a"] * 6)


class Dual(unittest.TestCase):
    def check(self, text, expected):
        self.assertEqual(form_after(1, read(0, text), dual(0, 1)), expected, text)
        self.assertEqual(form_after(1, read(0, expected), dual(0, 1)), text, expected)

    def test_example(self):
        self.assertEqual(form_after(0, read(0, "a*b -o c"), dual(0, 0)), "(a*b)*~c")

    def test_every_kind(self):
        self.check("a", "~a")
        for sign in SIGNS:
            self.check("a%sb" % sign, "~a%s~b" % PARTNERS[sign])
            self.check("~a%sb" % sign, "a%s~b" % PARTNERS[sign])
        self.check("!a", "?~a")
        self.check("?a", "!~a")

    def test_nested(self):
        self.check("!(a&?~b)*(c|(d+c))", "?(~a+!b)|(~c*(~d&~c))")
        self.check("(a*b)*c", "(~a|~b)|~c")
        self.check("a*b*c", "~a|~b|~c")

    def test_answers_atoms(self):
        for text, count in (("a", 1), ("!a", 1), ("a*(b|c)", 3), (chain(40), 40)):
            self.assertEqual(last(read(0, text), dual(0, 5)), [count])

    def test_different_numbers(self):
        self.assertEqual(forms_of_all(read(2, "b*c"), dual(2, 9)), ["a"] * 2 + ["b*c"] + ["a"] * 6 + ["~b|~c"])

    def test_same_number(self):
        self.assertEqual(forms_of_all(read(2, "b*c"), dual(2, 2)), ["a"] * 2 + ["~b|~c"] + ["a"] * 7)

    def test_later_changes_do_not_reach_over(self):
        given = ask(read(2, "b*c"), dual(2, 3), read(2, "d"), form(3), read(3, "e"), form(2))
        self.assertEqual(text_in(given[3]), "~b|~c")
        self.assertEqual(text_in(given[5]), "d")

    def test_dual_of_a_dual(self):
        for text in ("a", "~b", "a*b", "!(a|~b)+?c", "(a&b)&c", chain(40, "+")):
            self.assertEqual(form_after(1, read(0, text), dual(0, 1), dual(1, 1)), text)

    def test_refusals(self):
        for number in NOT_HELD:
            self.assertEqual(last(dual(number, 0)), [-2])
            self.assertEqual(last(dual(0, number)), [-2])
            self.assertEqual(last(dual(number, number)), [-2])
            self.assertEqual(forms_of_all(dual(number, 0), dual(0, number)), ["a"] * 10)


if __name__ == "__main__":
    unittest.main()
