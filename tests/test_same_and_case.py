"""Points 12 and 13: same and case."""

import unittest

from tests.helper import NOT_HELD, ask, build, case, chain, dual, fill, form, forms_of_all, last, part, read, row, same
from tests.helper import text_in

SIGNS = "*|&+"


class Same(unittest.TestCase):
    def the_same(self, one, other):
        self.assertEqual(ask(read(1, one), read(2, other), same(1, 2), same(2, 1))[2:], [[1, 0]] * 2, (one, other))

    def differ(self, one, other, place):
        expected = [0, len(place)] + place
        self.assertEqual(ask(read(1, one), read(2, other), same(1, 2), same(2, 1))[2:], [expected] * 2, (one, other))
        # Both have this place, and something else at it.
        given = ask(read(1, one), read(2, other), part(1, place), part(2, place))
        self.assertNotEqual(given[2], [-4])
        self.assertNotEqual(given[3], [-4])
        self.assertNotEqual(given[2], given[3])

    def test_the_same_formula(self):
        for text in ("b", "~b", "b*c", "b|c", "b&c", "b+c", "!b", "?b", "(b*c)|!(d&~e)", chain(40), "!" * 39 + "b"):
            self.the_same(text, text)

    def test_written_in_two_ways(self):
        self.the_same("b -o c", "~b | (c)")
        self.the_same("b*c*d", "b*(c*d)")
        self.the_same("~~b", "b")
        self.the_same("~!(b*c)", "?(~b|~c)")

    def test_i_and_j_the_same(self):
        for k in range(10):
            self.assertEqual(last(read(3, "b*(c|d)"), same(k, k)), [1, 0])

    def test_at_the_beginning(self):
        self.assertEqual(last(same(0, 9)), [1, 0])

    def test_formulas_made_in_two_ways(self):
        self.assertEqual(last(build(0, 0, 0, 1), read(2, "a*a"), same(1, 2)), [1, 0])
        self.assertEqual(last(read(1, "b*c"), dual(1, 2), dual(2, 3), same(1, 3)), [1, 0])

    def test_signs_at_the_top(self):
        texts = ["b", "!b", "?b"] + ["b%sc" % sign for sign in SIGNS]
        for one in texts:
            for other in texts:
                if one != other:
                    self.differ(one, other, [])

    def test_atoms_that_differ_in_the_name(self):
        self.differ("b", "c", [])
        self.differ("b", "bb", [])
        self.differ("b", "b1", [])
        self.differ("abcdefghijkl", "abcdefghijkm", [])

    def test_plain_and_turned(self):
        self.differ("b", "~b", [])
        self.differ("b", "~c", [])
        self.differ("b*c", "b*~c", [1])

    def test_in_the_first_formula(self):
        for sign in SIGNS:
            self.differ("b%sd" % sign, "c%sd" % sign, [0])
            self.differ("b%sd" % sign, "!b%sd" % sign, [0])
            self.differ("(b*c)%sd" % sign, "(b*e)%sd" % sign, [0, 1])

    def test_in_the_second_formula(self):
        for sign in SIGNS:
            self.differ("b%sd" % sign, "b%se" % sign, [1])
            self.differ("b%sd" % sign, "b%s?d" % sign, [1])
            self.differ("b%s(c|d)" % sign, "b%s(e|d)" % sign, [1, 0])

    def test_in_both(self):
        for sign in SIGNS:
            self.differ("b%sd" % sign, "c%se" % sign, [0])
            self.differ("(b*c)%sd" % sign, "(b*e)%se" % sign, [0, 1])
            self.differ("(b*c)%s(b*c)" % sign, "(b*!c)%s(!b*c)" % sign, [0, 1])

    def test_a_formula_before_those_within_it(self):
        self.differ("b*c", "d|e", [])
        self.differ("(b*c)&d", "(e|f)&g", [0])
        self.differ("b&(c*d)", "b&(e|f)", [1])

    def test_grouping(self):
        self.differ("b*b*b", "(b*b)*b", [0])
        self.differ("b*c*d", "b*(c|d)", [1])
        self.differ(chain(3), chain(4), [1, 1])

    def test_sizes_differ_ahead_of_nothing(self):
        # The first formula that it is of is larger in one of them: that is where they differ.
        self.differ("(b*b)*c", "b*c", [0])
        self.differ("!b*c", "b*c", [0])
        self.differ("(b*c)*(b*c)", "(b*c)*b", [1])

    def test_below_of_course_and_why_not(self):
        for sign in "!?":
            self.differ(sign + "b", sign + "c", [0])
            self.differ(sign + "!b", sign + "?b", [0])
            self.differ(sign + "(b*c)", sign + "(b*d)", [0, 1])
            self.differ("d*%sb" % sign, "d*%sc" % sign, [1, 0])
        self.differ("!?!b", "!?!~b", [0, 0, 0])
        self.differ("!b", "?b", [])

    def test_deep(self):
        self.differ("!" * 39 + "b", "!" * 39 + "c", [0] * 39)
        self.differ("!" * 39 + "b", "!" * 38 + "b", [0] * 38)
        self.differ("b*" * 39 + "c", "b*" * 39 + "d", [1] * 39)
        self.differ("b*" * 38 + "c*c", "b*" * 38 + "d*c", [1] * 38 + [0])
        left = "(" * 38 + "%s*c" + ")*d" * 38
        self.differ(left % "b", left % "e", [0] * 39)

    def test_every_place(self):
        text = "(%s*!(%s|%s))&(%s+?%s)&%s"
        places = [[0, 0], [0, 1, 0, 0], [0, 1, 0, 1], [1, 0, 0], [1, 0, 1, 0], [1, 1]]
        whole = text % tuple("bcdefg")
        for first, place in enumerate(places):
            names = ["z" if position >= first else name for position, name in enumerate("bcdefg")]
            self.differ(whole, text % tuple(names), place)
            names = ["~" * (position == first) + name for position, name in enumerate("bcdefg")]
            self.differ(whole, text % tuple(names), place)

    def test_refusals(self):
        for number in NOT_HELD:
            self.assertEqual(last(same(number, 0)), [-2])
            self.assertEqual(last(same(0, number)), [-2])
            self.assertEqual(last(same(number, number)), [-2])

    def test_changes_nothing(self):
        self.assertEqual(forms_of_all(read(1, "b*c"), same(0, 1), same(1, 1), same(1, 10)), ["a", "b*c"] + ["a"] * 8)


class Case(unittest.TestCase):
    def is_case(self, pattern, text, fillings):
        expected = [1, len(fillings)]
        for name, filling in fillings:
            expected += row(name) + row(filling)
        self.assertEqual(last(read(1, pattern), read(2, text), case(1, 2)), expected, (pattern, text))

    def no_case(self, pattern, text):
        self.assertEqual(last(read(1, pattern), read(2, text), case(1, 2)), [0, 0], (pattern, text))

    def test_example(self):
        self.assertEqual(last(read(0, "a|~a"), read(1, "b*c|~c|~b")), [-1])
        self.assertEqual(last(read(0, "a|~a"), read(1, "(b*c)|~b|~c"), case(0, 1)), [1, 1, 1, 97, 3, 98, 42, 99])

    def test_an_atom(self):
        for text in ("b", "c", "~c", "c*d", "(c|d)&e", "!c", "?~c", chain(40), "!" * 39 + "b"):
            self.is_case("b", text, [("b", text)])

    def test_a_turned_atom(self):
        for text, filling in (("b", "~b"), ("~b", "b"), ("c*~d", "~c|d"), ("c&d", "~c+~d"), ("!c", "?~c"),
                              ("(c|d)&e", "(~c*~d)+~e")):
            self.is_case("~b", text, [("b", filling)])

    def test_each_kind(self):
        for sign in SIGNS:
            self.is_case("b%sc" % sign, "(d*e)%s!f" % sign, [("b", "d*e"), ("c", "!f")])
            self.is_case("b%s~c" % sign, "d%s!f" % sign, [("b", "d"), ("c", "?~f")])
        for sign in "!?":
            self.is_case(sign + "b", sign + "(c|d)", [("b", "c|d")])
            self.is_case(sign + "~b", sign + "(c|d)", [("b", "~c*~d")])

    def test_signs_that_differ(self):
        patterns = ["b%sc" % sign for sign in SIGNS] + ["!b", "?b"]
        for pattern in patterns:
            for text in patterns:
                if pattern != text:
                    self.no_case(pattern, text)
                    self.no_case("d*(%s)" % pattern, "d*(%s)" % text)
                    self.no_case("!(%s)" % pattern, "!(%s)" % text)

    def test_an_atom_is_no_case_of_more(self):
        for pattern in ("b*c", "b|c", "b&c", "b+c", "!b", "?b"):
            self.no_case(pattern, "b")
            self.no_case(pattern, "~b")
            self.no_case("d*(%s)" % pattern, "d*b")
            self.no_case("(%s)*d" % pattern, "b*d")

    def test_a_name_twice_with_one_formula(self):
        self.is_case("b*b", "c*c", [("b", "c")])
        self.is_case("b*b", "(c|d)*(c|d)", [("b", "c|d")])
        self.is_case("b&(b+b)", "!c&(!c+!c)", [("b", "!c")])
        self.is_case("~b*~b", "(c|d)*(c|d)", [("b", "~c*~d")])

    def test_a_name_twice_with_two_formulas(self):
        self.no_case("b*b", "c*d")
        self.no_case("b*b", "c*~c")
        self.no_case("b*b", "(c|d)*(d|c)")
        self.no_case("b*b", "(c|d)*c")
        self.no_case("b*b", "c*(c*d)")
        self.no_case("~b*~b", "c*d")
        self.no_case("b*b*b", "c*c*d")
        self.no_case("b*b", "c*c*c")

    def test_plain_and_turned(self):
        self.is_case("b|~b", "c|~c", [("b", "c")])
        self.is_case("b|~b", "~c|c", [("b", "~c")])
        self.is_case("~b|b", "c|~c", [("b", "~c")])
        self.is_case("~b|b", "(c&!d)|(~c+?~d)", [("b", "~c+?~d")])
        self.is_case("b -o b", "c*d -o c*d", [("b", "c*d")])
        self.no_case("b|~b", "c|c")
        self.no_case("b|~b", "~c|~c")
        self.no_case("b|~b", "c|~d")
        self.no_case("b|~b", "(c*d)|~d|~c")
        self.no_case("~b|b", "(c*d)|(c*d)")

    def test_names_filled_in_at_once(self):
        self.is_case("b*c", "c*b", [("b", "c"), ("c", "b")])
        self.is_case("b*c*~b", "(b*c)*b*(~b|~c)", [("b", "b*c"), ("c", "b")])
        self.is_case("b*c", "d*d", [("b", "d"), ("c", "d")])

    def test_several_names_in_the_order_of_texts(self):
        self.is_case("z*y*x", "b*c*d", [("x", "d"), ("y", "c"), ("z", "b")])
        self.is_case("b*ab*a9*abc*a", "v*w*x*y*z", [("a", "z"), ("a9", "x"), ("ab", "w"), ("abc", "y"), ("b", "v")])
        self.is_case("aa*a", "~b*!c", [("a", "!c"), ("aa", "~b")])

    def test_names_count_once(self):
        self.is_case("b*c*b*~c", "d*e*d*~e", [("b", "d"), ("c", "e")])

    def test_grouping(self):
        self.is_case("b*c", "d*e*f", [("b", "d"), ("c", "e*f")])
        self.is_case("b*c", "(d*e)*f", [("b", "d*e"), ("c", "f")])
        self.no_case("b*c*d", "(e*f)*g")
        self.no_case("(b*c)*d", "e*f*g")

    def test_i_and_j_the_same(self):
        self.assertEqual(last(case(4, 4)), [1, 1, 1, 97, 1, 97])
        self.assertEqual(last(read(1, "c*~b*c"), case(1, 1)), [1, 2, 1, 98, 1, 98, 1, 99, 1, 99])
        self.is_case("c*~b*c", "c*~b*c", [("b", "b"), ("c", "c")])

    def test_not_the_other_way(self):
        self.is_case("b", "c*d", [("b", "c*d")])
        self.no_case("c*d", "b")

    def test_largest(self):
        names = ["n%02d" % number for number in range(60)]
        pattern = "(%s)|(%s)" % ("*".join(names[:30]), "*".join(names[30:]))
        text = "(%s)|(%s)" % ("*".join(["~abcdefghijkl"] * 30), "*".join(["~abcdefghijkl"] * 30))
        self.is_case(pattern, text, [(name, "~abcdefghijkl") for name in names])
        self.is_case("b|b", text, [("b", "*".join(["~abcdefghijkl"] * 30))])
        self.is_case("~b", text, [("b", "(%s)*(%s)" % ("|".join(["abcdefghijkl"] * 30), "|".join(["abcdefghijkl"] * 30)))])

    def test_deep(self):
        self.is_case("!" * 39 + "b", "!" * 39 + "~c", [("b", "~c")])
        self.is_case("!" * 20 + "b", "!" * 39 + "c", [("b", "!" * 19 + "c")])
        self.no_case("!" * 39 + "b", "!" * 38 + "b")
        self.is_case(chain(40), "*".join(["~c"] * 40), [("a", "~c")])
        self.no_case(chain(40), "*".join(["~c"] * 39 + ["c"]))

    def test_what_fill_makes_is_a_case(self):
        given = ask(read(0, "b|(~b&c)"), read(1, "!d*~e"), fill(0, 1, 2, "b"), case(0, 2), form(2))
        self.assertEqual(given[3], [1, 2] + row("b") + row("!d*~e") + row("c") + row("c"))
        self.assertEqual(text_in(given[4]), "(!d*~e)|((?~d|e)&c)")

    def test_refusals(self):
        for number in NOT_HELD:
            self.assertEqual(last(case(number, 0)), [-2])
            self.assertEqual(last(case(0, number)), [-2])
            self.assertEqual(last(case(number, number)), [-2])

    def test_changes_nothing(self):
        self.assertEqual(forms_of_all(read(1, "b*c"), case(0, 1), case(1, 0), case(1, 10)), ["a", "b*c"] + ["a"] * 8)


if __name__ == "__main__":
    unittest.main()
