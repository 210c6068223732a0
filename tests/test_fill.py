"""Point 9: fill."""

import unittest

from tests.helper import NO_NAMES, NOT_HELD, ask, chain, dual, fill, form, form_after, forms_of_all, last, read, rename


class Fill(unittest.TestCase):
    def check(self, text, name, filling, count, expected):
        calls = [read(1, text), read(2, filling), fill(1, 2, 3, name)]
        self.assertEqual(last(*calls), [count], text)
        held = forms_of_all(*calls)
        self.assertEqual(held[3], expected, text)
        before = forms_of_all(*calls[:2])
        self.assertEqual(held[:3] + held[4:], before[:3] + before[4:])

    def test_plain_atoms(self):
        self.check("b", "b", "c*d", 1, "c*d")
        self.check("b|e", "b", "c*d", 1, "(c*d)|e")
        self.check("e|b", "b", "c|d", 1, "e|c|d")
        self.check("b&b&b", "b", "c", 3, "c&c&c")

    def test_turned_atoms(self):
        self.check("~b", "b", "c*d", 1, "~c|~d")
        self.check("~b", "b", "~c", 1, "c")
        self.check("~b+e", "b", "!(c&~d)", 1, "?(~c+d)+e")

    def test_plain_and_turned_atoms(self):
        self.check("b|~b", "b", "c*d", 2, "(c*d)|~c|~d")
        self.check("(b*~c)+!(~b|?b)", "b", "?x", 3, "(?x*~c)+!(!~x|??x)")
        self.check("~b*b*e*~b", "b", "!c", 3, "?~c*!c*e*?~c")

    def test_every_kind_around(self):
        for sign in "*|&+":
            self.check("b%se" % sign, "b", "c", 1, "c%se" % sign)
            self.check("e%s~b" % sign, "b", "c", 1, "e%s~c" % sign)
            self.check("(b%sb)%sb" % (sign, sign), "b", "!c", 3, "(!c%s!c)%s!c" % (sign, sign))
        for sign in "!?":
            self.check(sign + "b", "b", "c+d", 1, sign + "(c+d)")
            self.check(sign + "~b", "b", "c+d", 1, sign + "(~c&~d)")

    def test_name_that_does_not_stand_there(self):
        self.check("b*~c", "d", "e|f", 0, "b*~c")
        self.check("b", "a", "e", 0, "b")

    def test_only_whole_names(self):
        self.check("ab*b*abc*~a", "ab", "z", 1, "z*b*abc*~a")
        self.check("ab*b*abc*~a", "a", "z", 1, "ab*b*abc*~z")
        self.check("abcdefghijkl*abcdefghijk", "abcdefghijkl", "z", 1, "z*abcdefghijk")

    def test_the_name_stands_in_the_filling_too(self):
        self.check("b*c", "b", "b*b", 1, "(b*b)*c")
        self.check("b|~b", "b", "b*~c", 2, "(b*~c)|~b|c")
        self.check("b*~b", "b", "~b", 2, "~b*b")

    def test_filled_with_its_own_atom(self):
        self.check("b*~b*c", "b", "b", 2, "b*~b*c")

    def test_the_filling_has_other_names_of_the_formula(self):
        self.check("b*c*~c", "b", "c|~c", 1, "(c|~c)*c*~c")

    def test_numbers_the_same(self):
        calls = [read(1, "b|~c"), read(2, "b*d")]
        self.assertEqual(form_after(1, *calls, fill(1, 2, 1, "b")), "(b*d)|~c")
        self.assertEqual(form_after(2, *calls, fill(1, 2, 2, "b")), "(b*d)|~c")
        self.assertEqual(form_after(5, *calls, fill(1, 1, 5, "b")), "(b|~c)|~c")
        self.assertEqual(form_after(1, *calls, fill(1, 1, 1, "c")), "b|(~b*c)")
        self.assertEqual(forms_of_all(*calls, fill(1, 1, 1, "b")), ["a", "(b|~c)|~c", "b*d"] + ["a"] * 7)
        self.assertEqual(forms_of_all(*calls, fill(1, 2, 1, "b")), ["a", "(b*d)|~c", "b*d"] + ["a"] * 7)
        self.assertEqual(forms_of_all(*calls, fill(1, 2, 2, "b")), ["a", "b|~c", "(b*d)|~c"] + ["a"] * 7)
        for k in (1, 2, 5):
            self.assertEqual(last(*calls, fill(1, 2, k, "b")), [1])
        self.assertEqual(last(read(0, "b*b*b"), fill(0, 1, 0, "b")), [3])

    def test_later_changes_do_not_reach_over(self):
        calls = [read(1, "b|c"), read(2, "d*e"), fill(1, 2, 3, "b"), fill(1, 2, 4, "x")]
        calls += [rename(2, "d", "y"), dual(1, 1), rename(3, "c", "z")]
        self.assertEqual(forms_of_all(*calls)[1:5], ["~b*~c", "y*e", "(d*e)|z", "b|c"])


class Refusals(unittest.TestCase):
    def test_number_of_formula_first(self):
        for number in NOT_HELD:
            for name in ("a", "", "1", "a b"):
                self.assertEqual(last(fill(number, 0, 0, name)), [-2])
                self.assertEqual(last(fill(0, number, 0, name)), [-2])
                self.assertEqual(last(fill(0, 0, number, name)), [-2])
                self.assertEqual(last(read(0, chain(40)), fill(0, 0, number, name)), [-2])

    def test_no_names(self):
        for text in NO_NAMES:
            self.assertEqual(last(fill(0, 1, 2, text)), [-1], text)
            # Out of bounds, if it were a: still -1.
            self.assertEqual(last(read(0, chain(40)), fill(0, 0, 2, text)), [-1], text)

    def test_atoms_bound(self):
        # 20 atoms, each with 3, are 60; with one that stays they are 61.
        self.assertEqual(last(read(0, chain(20)), read(1, "x*y*z"), fill(0, 1, 5, "a")), [20])
        self.assertEqual(last(read(0, "b*" + chain(20)), read(1, "x*y*z"), fill(0, 1, 5, "a")), [-5])
        self.assertEqual(last(read(0, chain(15)), read(1, "x*y*z*w"), fill(0, 1, 5, "a")), [15])
        self.assertEqual(last(read(0, chain(16)), read(1, "x*y*z*w"), fill(0, 1, 5, "a")), [-5])
        self.assertEqual(last(read(0, "~b*" + chain(20)), read(1, "x*y*z"), fill(0, 1, 5, "a")), [-5])

    def test_nodes_bound(self):
        # 20 atoms and 19 tensors; 8 signs before each atom: 199 nodes, depth 28.
        calls = [read(0, chain(20)), read(1, "!?!?!?!?x"), read(2, "!(" + chain(20) + ")")]
        self.assertEqual(last(*calls, fill(0, 1, 5, "a")), [20])
        self.assertEqual(last(*calls, fill(2, 1, 5, "a")), [20])
        self.assertEqual(last(*calls, read(2, "!!(" + chain(20) + ")"), fill(2, 1, 5, "a")), [-5])
        self.assertEqual(last(*calls, read(1, "!?!?!?!?!x"), fill(0, 1, 5, "a")), [-5])

    def test_depth_bound(self):
        for prefix in ("", "~"):
            calls = [read(0, "!" * 20 + prefix + "b"), read(1, "?" * 19 + "c"), read(2, "?" * 20 + "c")]
            self.assertEqual(last(*calls, fill(0, 1, 5, "b")), [1])
            self.assertEqual(last(*calls, fill(0, 2, 5, "b")), [-5])
            calls = [read(0, "d*" * 20 + prefix + "b"), read(1, "c*" * 19 + "c"), read(2, "c*" * 20 + "c")]
            self.assertEqual(last(*calls, fill(0, 1, 5, "b")), [1])
            self.assertEqual(last(*calls, fill(0, 2, 5, "b")), [-5])
        # The atom that is replaced doesn't stand deepest.
        self.assertEqual(last(read(0, "b*" + "!" * 38 + "c"), read(1, "!" * 38 + "d"), fill(0, 1, 5, "b")), [1])
        self.assertEqual(last(read(0, "b*" + "!" * 38 + "c"), read(1, "!" * 39 + "d"), fill(0, 1, 5, "b")), [-5])

    def test_no_bound_for_a_name_that_does_not_stand_there(self):
        self.assertEqual(last(read(0, "!" * 39 + "b"), read(1, chain(40)), fill(0, 1, 5, "c")), [0])

    def test_far_past_the_bounds(self):
        full = "(%s)|(%s)" % (chain(30), chain(30))
        self.assertEqual(ask(read(0, full), *[fill(0, 0, 0, "a")] * 200)[1:], [[-5]] * 200)

    def test_after_a_refusal_all_is_as_it_was(self):
        calls = [read(0, chain(40)), read(3, "b|c")]
        refused = [fill(0, 0, 3, "a"), fill(0, 0, 0, "a"), fill(3, 0, 3, "1"), fill(3, 10, 3, "b"), fill(-1, 3, 3, "b"),
                   fill(3, 0, 10, "b"), fill(0, 3, 3, "a"), fill(3, 3, 3, "")]
        self.assertEqual(ask(*calls, *refused)[2:], [[-5], [-5], [-1], [-2], [-2], [-2], [-5], [-1]])
        self.assertEqual(forms_of_all(*calls, *refused), [chain(40), "a", "a", "b|c"] + ["a"] * 6)

    def test_goes_on_after_a_refusal(self):
        given = ask(read(0, chain(40)), fill(0, 0, 1, "a"), fill(0, 1, 1, "b"), form(1))
        self.assertEqual(given[1:3], [[-5], [0]])
        self.assertEqual(given[3][1:4], [97, 42, 97])


if __name__ == "__main__":
    unittest.main()
