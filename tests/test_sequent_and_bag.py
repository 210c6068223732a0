"""Points 14 and 15: sequent and bag."""

import itertools
import unittest

from tests.helper import bag, chain, forms_of_all, last, read, row, sequent

NOT_READ = [-1]
OUT_OF_BOUNDS = [-5]
# Formulas past the bounds by their depth, atoms, nodes, depth; and some just within them.
TOO_LARGE = ("!" * 40 + "a", "(%s)|(%s)" % (chain(30), chain(31)), "!!(" + "*".join(["!?!?!?!?a"] * 20) + ")", chain(41))
LARGEST = ("!" * 39 + "a", "(%s)|(%s)" % (chain(30), chain(30)), "!(" + "*".join(["!?!?!?!?a"] * 20) + ")", chain(40))


class Sequent(unittest.TestCase):
    def check(self, text, formulas, atoms, balanced, multiplicative, form):
        self.assertEqual(last(sequent(text)), [formulas, atoms, balanced, multiplicative] + row(form), text)
        self.assertEqual(last(sequent(form)), [formulas, atoms, balanced, multiplicative] + row(form), form)

    def refused(self, text):
        self.assertEqual(last(sequent(text)), NOT_READ, text)

    def test_empty(self):
        for text in ("", " ", "   ", " " * 2000, " " * 2001, " " * 2100):
            self.check(text, 0, 0, 1, 1, "")
        self.assertEqual(last(sequent("")), [0, 0, 1, 1, 0])

    def test_one_formula(self):
        self.check("b", 1, 1, 0, 1, "b")
        self.check("~b", 1, 1, 0, 1, "~b")
        self.check("b*~b", 1, 2, 1, 1, "b*~b")
        self.check(" b -o c ", 1, 2, 0, 1, "~b|c")
        self.assertEqual(last(sequent("b*~b")), [1, 2, 1, 1, 4, 98, 42, 126, 98])

    def test_several_formulas(self):
        self.check("b,c", 2, 2, 0, 1, "b, c")
        self.check(" b , ~ c|d ,(e)", 3, 4, 0, 1, "b, ~c|d, e")
        self.check("c,b,c", 3, 3, 0, 1, "c, b, c")
        self.assertEqual(last(sequent("b,~b")), [2, 2, 1, 1, 5, 98, 44, 32, 126, 98])

    def test_twenty_and_twenty_one(self):
        self.check(",".join(["b"] * 19), 19, 19, 0, 1, ", ".join(["b"] * 19))
        self.check(",".join(["b"] * 20), 20, 20, 0, 1, ", ".join(["b"] * 20))
        self.refused(",".join(["b"] * 21))
        self.refused(",".join(["b"] * 22))
        self.refused(",".join(["b"] * 1050))
        self.refused("," * 2100)

    def test_empty_parts(self):
        for text in (",", ",,", " , ", "b,", ",b", "b,,c", "b, ,c", " ,b", "b, ", ",b,c", "b,c,", "b,   ,c"):
            self.refused(text)

    def test_parts_that_are_no_formulas(self):
        for part in ("b*", "*b", "(b", "b)", "b c", "B", "b*c|d", "1", "abcdefghijklm", "~", "b-", "b;c", "(b,c)", "-o b"):
            self.refused(part)
            self.refused(part + ",b")
            self.refused("b," + part)
            self.refused("b," + part + ",b")
        self.refused("(b,c)")
        self.refused("b*,c")
        self.refused("b,*c")
        self.refused("b -o ,c")

    def test_other_bytes(self):
        for byte in range(256):
            given = last(sequent([98, 32, byte, 32, 99]))
            if byte == 44:
                self.assertEqual(given, [2, 2, 0, 1] + row("b, c"))
            elif byte in b"*|&+":
                self.assertEqual(given[:2], [1, 2])
            else:
                self.assertEqual(given, NOT_READ, byte)

    def test_parts_of_more_than_2000_bytes(self):
        self.assertEqual(last(sequent("b" + " " * 1999)), [1, 1, 0, 1, 1, 98])
        self.refused("b" + " " * 2000)
        self.refused(" " * 2000 + "b")
        self.refused("b" + " " * 2099)
        self.assertEqual(last(sequent("b" + " " * 1999 + ",c")), [2, 2, 0, 1] + row("b, c"))
        self.assertEqual(last(sequent("c, b" + " " * 1998)), [2, 2, 0, 1] + row("c, b"))
        self.refused("b" + " " * 2000 + ",c")
        self.refused("c,b" + " " * 2000)
        self.assertEqual(last(sequent("b" + " " * 1048 + "," + " " * 1049 + "c")), [2, 2, 0, 1] + row("b, c"))

    def test_open_signs_are_those_of_one_part(self):
        part = "(" * 100 + "b" + ")" * 100
        self.check(",".join([part] * 3), 3, 3, 0, 1, "b, b, b")
        self.refused(part + ",(" + part + ")")

    def test_formulas_out_of_bounds(self):
        for text in TOO_LARGE:
            for whole in (text, "b," + text, text + ",b", "b," + text + ",c", text + "," + text):
                self.assertEqual(last(sequent(whole)), OUT_OF_BOUNDS, whole)
        for text in LARGEST:
            self.assertEqual(last(sequent(text))[0], 1)
            self.assertEqual(last(sequent("b," + text + ",c"))[0], 3)

    def test_the_bounds_are_those_of_each_formula(self):
        text = ",".join([LARGEST[1]] * 10)
        self.check(text, 10, 600, 0, 1, ", ".join([LARGEST[1]] * 10))

    def test_no_formula_before_out_of_bounds(self):
        for text in TOO_LARGE:
            for whole in (text + ",", "," + text, text + ",b*", "b*," + text, text + ",b," + "1", text + "," + text + ",~"):
                self.refused(whole)
        self.refused(",".join(["!" * 40 + "a"] + ["b"] * 20))
        self.refused(",".join(["b"] * 20 + ["!" * 40 + "a"]))
        self.assertEqual(last(sequent(",".join(["b"] * 19 + ["!" * 40 + "a"]))), OUT_OF_BOUNDS)

    def balanced(self, text, expected):
        self.assertEqual(last(sequent(text))[2], expected, text)

    def test_balanced(self):
        for text in ("", "b,~b", "~b,b", "b*~b", "b|c,~c,~b", "b*c -o c*b", "b -o b", "!b,?~b", "b,b,~b,~b", "b,~b*b,~b",
                     "b&~b,c+~c", "(b|~c),(c|~d),d*~b"):
            self.balanced(text, 1)

    def test_not_balanced(self):
        for text in ("b", "~b", "b,b", "b,~c", "b,~b,b", "b,~b,~b", "b,~b,c", "b,c,~b,~d", "b,~bb", "ab,~a,~b", "b*b,~b",
                     "b,b,~b,~c", "~b,b,c,~c,~c"):
            self.balanced(text, 0)

    def multiplicative(self, text, expected):
        self.assertEqual(last(sequent(text))[3], expected, text)

    def test_multiplicative(self):
        for text in ("", "b", "~b", "b*c", "b|c", "b -o c", "~(b*(c|d))", "b,c*d,(e|~f)*g", chain(40)):
            self.multiplicative(text, 1)

    def test_not_multiplicative(self):
        for text in ("b&c", "b+c", "!b", "?b", "~!b"):
            self.multiplicative(text, 0)
            self.multiplicative("b*c," + text, 0)
            self.multiplicative(text + ",b*c", 0)
            self.multiplicative("d*(%s)" % text, 0)
            self.multiplicative("((%s)|c)*d" % text, 0)

    def test_form(self):
        self.check("a*b -o c, ~(a|!b) ,((d)&(e&f))", 3, 8, 0, 0, "(~a|~b)|c, ~a*?~b, d&e&f")
        self.check("(b*c)*d,b*(c*d)", 2, 6, 0, 1, "(b*c)*d, b*c*d")

    def test_long_form(self):
        # The form is longer than the text.
        part = "~(%s)" % chain(40)
        text = ",".join([part] * 20)
        self.assertLessEqual(len(text), 2100)
        given = last(sequent(text))
        self.assertEqual(given, [20, 800, 0, 1] + row(", ".join(["|".join(["~a"] * 40)] * 20)))

    def test_changes_nothing(self):
        self.assertEqual(forms_of_all(read(1, "b*c"), sequent("d,e"), sequent("d,"), sequent("!" * 40 + "a"), sequent("")),
                         ["a", "b*c"] + ["a"] * 8)


class Bag(unittest.TestCase):
    def check(self, one, other, expected):
        self.assertEqual(last(bag(one, other)), [expected], (one, other))
        self.assertEqual(last(bag(other, one)), [expected], (other, one))

    def test_empty(self):
        self.check("", "", 1)
        self.check("", "   ", 1)
        self.check(" " * 2100, "", 1)
        self.check("", "b", 0)
        self.check("  ", "b,c", 0)

    def test_the_same(self):
        for text in ("b", "b,c", "b*c,d|~e,!f", ",".join(["b"] * 20)):
            self.check(text, text, 1)

    def test_in_another_order(self):
        formulas = ["b", "~b", "b*c", "!(b|c)"]
        for order in itertools.permutations(formulas):
            self.check(",".join(formulas), " , ".join(order), 1)

    def test_one_more_often(self):
        self.check("b,b,c", "b,c,c", 0)
        self.check("b,b", "b", 0)
        self.check("b,c,b", "b,b,c", 1)
        self.check("b,c,b", "b,c", 0)
        self.check("b,b,b,c", "b,b,c,c", 0)
        self.check(",".join(["b"] * 20), ",".join(["b"] * 19), 0)
        self.check(",".join(["b"] * 20), ",".join(["b"] * 19 + ["c"]), 0)
        self.check(",".join(["b"] * 10 + ["c"] * 10), ",".join(["c", "b"] * 10), 1)

    def test_different_formulas(self):
        self.check("b", "c", 0)
        self.check("b", "~b", 0)
        self.check("b", "bb", 0)
        self.check("b*c", "c*b", 0)
        self.check("b*c", "b,c", 0)
        self.check("b*c", "b|c", 0)
        self.check("!b", "?b", 0)
        self.check("(b*c)*d", "b*c*d", 0)
        self.check("b,cd", "bc,d", 0)

    def test_written_in_two_ways(self):
        self.check("b -o c, d", "d,~b|c", 1)
        self.check("~(b*c)", "~b|~c", 1)
        self.check("~~b,(c)", "c , b", 1)
        self.check("b*(c*d)", "b*c*d", 1)
        self.check("b -o b, ~b|b", "~b|b,~b|b", 1)

    def test_no_sequents(self):
        for text in (",", "b,", "b*", "b,,c", "(b,c)", ",".join(["b"] * 21), "b" + " " * 2000, "A"):
            self.assertEqual(last(bag(text, "b")), NOT_READ)
            self.assertEqual(last(bag("b", text)), NOT_READ)
            self.assertEqual(last(bag(text, text)), NOT_READ)
            self.assertEqual(last(bag("", text)), NOT_READ)
            self.assertEqual(last(bag(text, "")), NOT_READ)

    def test_formulas_out_of_bounds(self):
        for text in TOO_LARGE:
            for whole in (text, "b," + text, text + ",b"):
                self.assertEqual(last(bag(whole, "b")), OUT_OF_BOUNDS)
                self.assertEqual(last(bag("b", whole)), OUT_OF_BOUNDS)
                self.assertEqual(last(bag(whole, whole)), OUT_OF_BOUNDS)

    def test_the_first_text_before_the_second(self):
        for text in TOO_LARGE:
            self.assertEqual(last(bag(text, "b,")), OUT_OF_BOUNDS)
            self.assertEqual(last(bag("b,", text)), NOT_READ)
            self.assertEqual(last(bag(text + ",", text)), NOT_READ)
            self.assertEqual(last(bag(text, text + ",")), OUT_OF_BOUNDS)

    def test_largest(self):
        for text in LARGEST:
            self.check(text + ",b", "b," + text, 1)

    def test_changes_nothing(self):
        self.assertEqual(forms_of_all(read(1, "b*c"), bag("b", "c"), bag("b", "b"), bag("b,", "c"), bag("b", TOO_LARGE[0])),
                         ["a", "b*c"] + ["a"] * 8)


if __name__ == "__main__":
    unittest.main()
