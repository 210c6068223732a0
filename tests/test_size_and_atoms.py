"""Points 5 and 6: size and atoms."""

import unittest

from tests.helper import NOT_HELD, atoms, chain, dual, forms_of_all, last, octets, read, size


class Size(unittest.TestCase):
    def check(self, text, expected):
        self.assertEqual(last(read(0, text), size(0)), expected, text)

    def test_at_the_beginning(self):
        self.assertEqual(last(size(9)), [1, 1, 1, 0, 0, 0, 0, 0, 0])

    def test_each_kind_alone(self):
        self.check("a", [1, 1, 1, 0, 0, 0, 0, 0, 0])
        self.check("~a", [1, 1, 1, 0, 0, 0, 0, 0, 0])
        self.check("a*b", [3, 2, 2, 1, 0, 0, 0, 0, 0])
        self.check("a|b", [3, 2, 2, 0, 1, 0, 0, 0, 0])
        self.check("a&b", [3, 2, 2, 0, 0, 1, 0, 0, 0])
        self.check("a+b", [3, 2, 2, 0, 0, 0, 1, 0, 0])
        self.check("!a", [2, 1, 2, 0, 0, 0, 0, 1, 0])
        self.check("?a", [2, 1, 2, 0, 0, 0, 0, 0, 1])

    def test_all_counts_differ(self):
        # 1 tensor, 2 pars, 3 withs, 4 pluses, 5 of courses, 6 why nots, 11 atoms
        text = "(a|b|c)*((a&b&c&d)+a+b+c+!!!!!??????a)"
        self.check(text, [32, 11, 17, 1, 2, 3, 4, 5, 6])

    def test_depth_is_the_greater_one(self):
        self.check("!!a*b", [5, 2, 4, 1, 0, 0, 0, 2, 0])
        self.check("b*!!a", [5, 2, 4, 1, 0, 0, 0, 2, 0])
        self.check("(a*b)*(c*d)", [7, 4, 3, 3, 0, 0, 0, 0, 0])

    def test_at_the_bounds(self):
        self.check(chain(40), [79, 40, 40, 39, 0, 0, 0, 0, 0])
        self.check("(%s)|(%s)" % (chain(30), chain(30)), [119, 60, 31, 58, 1, 0, 0, 0, 0])
        self.check("!" * 39 + "a", [40, 1, 40, 0, 0, 0, 0, 39, 0])
        self.check("!(" + "*".join(["!?!?!?!?a"] * 20) + ")", [200, 20, 29, 19, 0, 0, 0, 81, 80])

    def test_dual(self):
        self.assertEqual(last(read(0, "!(a*b)&c"), dual(0, 0), size(0)), [6, 3, 4, 0, 1, 0, 1, 0, 1])

    def test_refusals(self):
        for k in NOT_HELD:
            self.assertEqual(last(size(k)), [-2])

    def test_changes_nothing(self):
        self.assertEqual(forms_of_all(read(5, "b*c"), size(5), size(10)), ["a"] * 5 + ["b*c"] + ["a"] * 4)


class Atoms(unittest.TestCase):
    def check(self, text, expected):
        flat = [len(expected)]
        for name, plain, turned in expected:
            flat += [len(name)] + octets(name) + [plain, turned]
        self.assertEqual(last(read(0, text), atoms(0)), flat, text)

    def test_numbers(self):
        self.assertEqual(last(atoms(0)), [1, 1, 97, 1, 0])
        self.assertEqual(last(read(3, "~b1*a"), atoms(3)), [2, 1, 97, 1, 0, 2, 98, 49, 0, 1])

    def test_one_name(self):
        self.check("a", [("a", 1, 0)])
        self.check("~a", [("a", 0, 1)])
        self.check("a*~a", [("a", 1, 1)])
        self.check("a*~a*!~a", [("a", 1, 2)])
        self.check("!(a|?a)+(a&~a)", [("a", 3, 1)])

    def test_turned_as_the_formula_has_it(self):
        self.check("a -o a", [("a", 1, 1)])
        self.check("~(a*b*~a)", [("a", 1, 1), ("b", 0, 1)])

    def test_order(self):
        self.check("c*b*a", [("a", 1, 0), ("b", 1, 0), ("c", 1, 0)])
        self.check("z*a9*a10*b*a1*a", [(name, 1, 0) for name in ("a", "a1", "a10", "a9", "b", "z")])

    def test_a_name_that_another_begins_with(self):
        self.check("abc*ab*~abc*a*~abcd*ab", [("a", 1, 0), ("ab", 2, 0), ("abc", 1, 1), ("abcd", 0, 1)])
        self.check("ab*b*aa", [("aa", 1, 0), ("ab", 1, 0), ("b", 1, 0)])

    def test_digits_before_letters(self):
        self.check("aa*a9*a0*az", [("a0", 1, 0), ("a9", 1, 0), ("aa", 1, 0), ("az", 1, 0)])

    def test_longest_names(self):
        self.check("abcdefghijkl*~abcdefghijkm", [("abcdefghijkl", 1, 0), ("abcdefghijkm", 0, 1)])

    def test_many(self):
        names = ["%s%d" % (letter, digit) for letter in "abcdef" for digit in range(10)]
        shuffled = names[::-1]
        self.check("(%s)|(%s)" % ("*".join(shuffled[:30]), "*".join(shuffled[30:])), [(name, 1, 0) for name in names])
        self.check("(%s)|(%s)" % (chain(30), "*".join(["~a"] * 30)), [("a", 30, 30)])

    def test_refusals(self):
        for k in NOT_HELD:
            self.assertEqual(last(atoms(k)), [-2])

    def test_changes_nothing(self):
        self.assertEqual(forms_of_all(read(5, "c*b"), atoms(5), atoms(10)), ["a"] * 5 + ["c*b"] + ["a"] * 4)


if __name__ == "__main__":
    unittest.main()
