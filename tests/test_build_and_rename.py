"""Points 7 and 8: build and rename."""

import unittest

from tests.helper import FAR, NO_NAMES, NOT_HELD, ask, atoms, build, chain, dual, form_after, forms_of_all, last, read
from tests.helper import rename


class Build(unittest.TestCase):
    def setting(self):
        return [read(1, "b*c"), read(2, "d|~e")]

    def check(self, o, i, j, expected, count):
        given = ask(*self.setting(), build(o, i, j, 5))
        self.assertEqual(given[-1], [count])
        self.assertEqual(forms_of_all(*self.setting(), build(o, i, j, 5)),
                         ["a", "b*c", "d|~e", "a", "a", expected, "a", "a", "a", "a"])

    def test_each_kind(self):
        self.check(0, 1, 2, "(b*c)*(d|~e)", 4)
        self.check(1, 1, 2, "(b*c)|d|~e", 4)
        self.check(2, 1, 2, "(b*c)&(d|~e)", 4)
        self.check(3, 1, 2, "(b*c)+(d|~e)", 4)
        self.check(4, 1, 2, "!(b*c)", 2)
        self.check(5, 1, 2, "?(b*c)", 2)

    def test_order_of_sides(self):
        self.check(0, 2, 1, "(d|~e)*b*c", 4)
        self.check(3, 2, 0, "(d|~e)+a", 3)
        self.check(4, 2, 1, "!(d|~e)", 2)

    def test_same_formula_twice(self):
        self.check(2, 1, 1, "(b*c)&(b*c)", 4)
        self.check(0, 1, 1, "(b*c)*b*c", 4)

    def test_k_is_i_or_j(self):
        for o, expected in enumerate(("(b*c)*(d|~e)", "(b*c)|d|~e", "(b*c)&(d|~e)", "(b*c)+(d|~e)", "!(b*c)", "?(b*c)")):
            self.assertEqual(forms_of_all(*self.setting(), build(o, 1, 2, 1)), ["a", expected, "d|~e"] + ["a"] * 7)
            self.assertEqual(forms_of_all(*self.setting(), build(o, 1, 2, 2)), ["a", "b*c", expected] + ["a"] * 7)
        self.assertEqual(form_after(0, build(1, 0, 0, 0), build(0, 0, 0, 0)), "(a|a)*(a|a)")

    def test_later_changes_do_not_reach_over(self):
        calls = self.setting() + [build(0, 1, 2, 3), build(4, 1, 1, 4), read(1, "x"), dual(2, 2), rename(3, "b", "y")]
        self.assertEqual(forms_of_all(*calls)[:5], ["a", "x", "~d*e", "(y*c)*(d|~e)", "!(b*c)"])

    def test_number_of_formula_first(self):
        for o in (0, 1, 2, 3, 4, 5, 6, -1, FAR, -FAR):
            for number in NOT_HELD:
                self.assertEqual(last(build(o, number, 0, 0)), [-2])
                self.assertEqual(last(build(o, 0, number, 0)), [-2])
                self.assertEqual(last(build(o, 0, 0, number)), [-2])

    def test_kind_that_is_none(self):
        for o in (6, 7, -1, -2, 10, FAR, -FAR):
            self.assertEqual(last(build(o, 0, 1, 2)), [-1])
            # Not in bounds, whatever the sign: still -1.
            self.assertEqual(last(read(0, chain(40)), build(o, 0, 0, 2)), [-1])

    def test_atoms_bound(self):
        calls = [read(0, "(%s)|%s" % (chain(20), chain(20, "|"))), read(1, chain(20)), read(2, chain(21))]
        for o in range(4):
            self.assertEqual(last(*calls, build(o, 0, 1, 3)), [60])
            self.assertEqual(last(*calls, build(o, 1, 0, 3)), [60])
            self.assertEqual(last(*calls, build(o, 0, 2, 3)), [-5])
            self.assertEqual(last(*calls, build(o, 2, 0, 3)), [-5])
        for o in (4, 5):
            self.assertEqual(last(*calls, build(0, 0, 1, 3), build(o, 3, 3, 3)), [60])

    def test_nodes_bound(self):
        # 199 nodes of depth 28, 20 atoms; 99 nodes of depth 18, 10 atoms; 100 nodes.
        whole = "*".join(["!?!?!?!?a"] * 20)
        half = "*".join(["!?!?!?!?a"] * 10)
        calls = [read(0, whole), read(1, half), read(2, "!(" + half + ")"), read(3, "!?(" + half + ")")]
        for o in (4, 5):
            self.assertEqual(last(*calls, build(o, 0, 0, 4)), [20])
            self.assertEqual(last(*calls, build(o, 0, 0, 4), build(o, 4, 4, 4)), [-5])
        for o in range(4):
            self.assertEqual(last(*calls, build(o, 1, 2, 4)), [20])
            self.assertEqual(last(*calls, build(o, 2, 1, 4)), [20])
            self.assertEqual(last(*calls, build(o, 2, 2, 4)), [-5])
            self.assertEqual(last(*calls, build(o, 1, 3, 4)), [-5])

    def test_depth_bound(self):
        calls = [read(0, "!" * 38 + "a"), read(1, "!" * 39 + "a"), read(2, "b")]
        for o in range(6):
            self.assertEqual(last(*calls, build(o, 0, 2, 3)), [2 if o < 4 else 1])
            self.assertEqual(last(*calls, build(o, 1, 2, 3)), [-5])
        for o in range(4):
            self.assertEqual(last(*calls, build(o, 2, 0, 3)), [2])
            self.assertEqual(last(*calls, build(o, 2, 1, 3)), [-5])
        for o in (4, 5):
            # Of the second formula nothing is taken.
            self.assertEqual(last(*calls, build(o, 2, 1, 3)), [1])

    def test_after_a_refusal_all_is_as_it_was(self):
        calls = [read(0, "!" * 39 + "a"), read(1, "b*c")]
        refused = [build(0, 0, 1, 1), build(4, 0, 1, 1), build(6, 1, 1, 1), build(4, 1, 10, 1), build(0, -9, 1, 1)]
        self.assertEqual(ask(*calls, *refused)[2:], [[-5], [-5], [-1], [-2], [-2]])
        self.assertEqual(forms_of_all(*calls, *refused), ["!" * 39 + "a", "b*c"] + ["a"] * 8)


class Rename(unittest.TestCase):
    def check(self, text, first, second, count, expected):
        self.assertEqual(last(read(4, text), rename(4, first, second)), [count])
        self.assertEqual(forms_of_all(read(4, text), rename(4, first, second)),
                         ["a"] * 4 + [expected] + ["a"] * 5)

    def test_ordinary(self):
        self.check("b*c", "b", "d", 1, "d*c")
        self.check("b*~b*(c|!b)", "b", "x9", 3, "x9*~x9*(c|!x9)")
        self.check("~b", "b", "c", 1, "~c")

    def test_only_whole_names(self):
        self.check("ab*b*abc*a", "ab", "z", 1, "z*b*abc*a")
        self.check("ab*b*abc*a", "a", "z", 1, "ab*b*abc*z")

    def test_longest_names(self):
        self.check("abcdefghijkl*a", "abcdefghijkl", "b12345678901", 1, "b12345678901*a")

    def test_names_not_there(self):
        self.check("b*c", "d", "e", 0, "b*c")
        self.check("b*c", "d", "b", 0, "b*c")

    def test_same_names(self):
        self.check("b*c*b", "b", "b", 0, "b*c*b")
        self.check("b*c*b", "x", "x", 0, "b*c*b")

    def test_new_name_stands_there_already(self):
        self.check("b*c*~b*~c", "b", "c", 2, "c*c*~c*~c")
        calls = [read(0, "b*c*~b*~c"), rename(0, "b", "c")]
        self.assertEqual(last(*calls, atoms(0)), [1, 1, 99, 2, 2])
        self.assertEqual(last(*calls, rename(0, "c", "d")), [4])
        self.assertEqual(last(*calls, rename(0, "b", "d")), [0])

    def test_other_formulas_stay(self):
        calls = [read(0, "b*c"), build(4, 0, 0, 1), rename(0, "b", "d")]
        self.assertEqual(forms_of_all(*calls)[:2], ["d*c", "!(b*c)"])

    def test_no_names(self):
        for text in NO_NAMES:
            self.assertEqual(last(rename(0, text, "b")), [-1], text)
            self.assertEqual(last(rename(0, "a", text)), [-1], text)
            self.assertEqual(last(rename(0, "z", text)), [-1], text)
            self.assertEqual(last(rename(0, text, text)), [-1], text)

    def test_number_of_formula_first(self):
        for k in NOT_HELD:
            self.assertEqual(last(rename(k, "a", "b")), [-2])
            self.assertEqual(last(rename(k, "", "b")), [-2])
            self.assertEqual(last(rename(k, "a", "1")), [-2])
            self.assertEqual(last(rename(k, "a", "a")), [-2])

    def test_after_a_refusal_all_is_as_it_was(self):
        self.assertEqual(forms_of_all(rename(0, "a", ""), rename(0, "", "a"), rename(10, "a", "b"), rename(-1, "a", "b")),
                         ["a"] * 10)


if __name__ == "__main__":
    unittest.main()
