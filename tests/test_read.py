"""Point 1: read."""

import unittest

from tests.helper import NOT_HELD, ask, chain, form, form_after, form_read, last, read, text_in, whole_tree

NOT_READ = [-1]
OUT_OF_BOUNDS = [-5]


class Example(unittest.TestCase):
    def test_unlike_signs(self):
        self.assertEqual(last(read(0, "a*b -o c|~d&e")), NOT_READ)

    def test_arrow(self):
        self.assertEqual(ask(read(0, "a*b -o c"), form(0))[0], [3])
        self.assertEqual(form_read("a*b -o c"), "(~a|~b)|c")

    def test_case_texts(self):
        self.assertEqual(last(read(1, "b*c|~c|~b")), NOT_READ)
        self.assertEqual(last(read(1, "(b*c)|~b|~c")), [4])
        self.assertEqual(last(read(1, "a|~a")), [2])


class Meaning(unittest.TestCase):
    def check(self, text, expected):
        self.assertEqual(form_read(text), expected, text)

    def test_each_sign(self):
        for text in ("a", "~a", "a*b", "a|b", "a&b", "a+b", "!a", "?a"):
            self.check(text, text)

    def test_answers_atoms(self):
        for text, count in (("a", 1), ("~a", 1), ("!?a", 1), ("a*a", 2), ("a*b*c*d", 4), ("(a|b)&(c+~a)", 4),
                            ("a -o b -o c", 3), (chain(30), 30)):
            self.assertEqual(last(read(0, text)), [count], text)

    def test_same_signs_group_to_the_right(self):
        for sign in "*|&+":
            self.check(sign.join("abcd"), sign.join("abcd"))
            self.check("a%s(b%sc)" % (sign, sign), "a%sb%sc" % (sign, sign))
            self.check("(a%sb)%sc" % (sign, sign), "(a%sb)%sc" % (sign, sign))

    def test_tilde_before_every_kind(self):
        self.check("~a", "~a")
        self.check("~~a", "a")
        self.check("~~~a", "~a")
        self.check("~(a)", "~a")
        self.check("~(a*b)", "~a|~b")
        self.check("~(a|b)", "~a*~b")
        self.check("~(a&b)", "~a+~b")
        self.check("~(a+b)", "~a&~b")
        self.check("~!a", "?~a")
        self.check("~?a", "!~a")
        self.check("~!~a", "?a")
        self.check("!~?a", "!!~a")
        self.check("~(a -o b)", "a*~b")
        self.check("~!(a*~b)", "?(~a|b)")
        self.check("~(a*(b|!c))", "~a|(~b*?~c)")

    def test_prefix_signs_hold_one_part(self):
        self.check("~a*b", "~a*b")
        self.check("!a*b", "!a*b")
        self.check("?a|b", "?a|b")
        self.check("a*~b*c", "a*~b*c")
        self.check("!~a -o b", "?a|b")

    def test_arrow(self):
        self.check("a-ob", "~a|b")
        self.check("a -o b -o c", "~a|~b|c")
        self.check("(a -o b) -o c", "(a*~b)|c")
        self.check("a -o (b -o c)", "~a|~b|c")
        self.check("a*b -o c*d", "(~a|~b)|(c*d)")
        self.check("a|b -o c|d", "(~a*~b)|c|d")
        self.check("!a -o b", "?~a|b")
        self.check("a&b -o c+d -o e", "(~a+~b)|(~c&~d)|e")
        self.check("~a -o b", "a|b")

    def test_the_arrow_ends_a_chain(self):
        self.check("a*b -o c&d", "(~a|~b)|(c&d)")
        self.assertEqual(last(read(0, "a -o b*c -o d+e&f")), NOT_READ)

    def test_the_arrow_is_two_bytes(self):
        self.check("a-oo", "~a|o")
        self.check("a-oo-oo", "~a|~o|o")
        self.check("o-oo", "~o|o")
        for text in ("a- ob", "a -b", "a - o b", "a-", "a-O b", "a--ob", "a-o", "-oa", "a-o-ob", "a-o1b"):
            self.assertEqual(last(read(0, text)), NOT_READ, text)

    def test_blanks_between_tokens(self):
        self.check("  ( a * ~ b )   -o  ! ? c  ", "(~a|b)|!?c")
        self.check("a *b", "a*b")
        self.check("~ ~ a", "a")
        self.check(" a", "a")
        self.check("a ", "a")

    def test_no_blanks_within_names(self):
        self.check("ab*c", "ab*c")
        for text in ("a b*c", "a b", "a 1"):
            self.assertEqual(last(read(0, text)), NOT_READ, text)


class Grammar(unittest.TestCase):
    def refused(self, text):
        self.assertEqual(last(read(0, text)), NOT_READ, text)

    def test_names(self):
        for name in ("a", "z", "a0", "z9", "a1b2", "abcdefghijkl", "a12345678901"):
            self.assertEqual(form_read(name), name)

    def test_stretches_that_are_no_names(self):
        for text in ("abcdefghijklm", "a123456789012", "1", "1a", "0a*b", "a*9", "a*1b", "1*a", "abcdefghijklmnopqrstuvwx"):
            self.refused(text)

    def test_other_bytes(self):
        for byte in range(256):
            expected = [1] if byte in b"abcdefghijklmnopqrstuvwxyz0123456789 " else NOT_READ
            self.assertEqual(last(read(0, [97, byte])), expected, byte)

    def test_other_bytes_between_parts(self):
        for byte in range(256):
            expected = [2] if byte in b"*|&+" else NOT_READ
            self.assertEqual(last(read(0, [97, 32, byte, 32, 98])), expected, byte)

    def test_other_bytes_before_a_part(self):
        for byte in range(256):
            expected = [1] if byte in b"~!? " or 97 <= byte <= 122 else NOT_READ
            self.assertEqual(last(read(0, [byte, 97])), expected, byte)

    def test_empty(self):
        for text in ("", " ", "     ", "()", "( )", "!", "~", "?", "~()"):
            self.refused(text)

    def test_unfinished_and_misplaced(self):
        for text in ("a*", "*a", "a**b", "a*|b", "(a", "a)", "(a))", "((a)", ")a(", "a(b)", "(a)b", "(a)(b)", "a~b",
                     "a!", "a?b", "a!b", "(a*)", "(*a)", "a -o", "-o a", "a -o -o b", "(a -o)", "a -o )", "~*a", "!)"):
            self.refused(text)

    def test_unlike_signs_in_one_chain(self):
        for one in "*|&+":
            for other in "*|&+":
                if one != other:
                    self.refused("a%sb%sc" % (one, other))
                    self.refused("a%sb%sc%sd" % (one, one, other))
                    self.refused("a%sb%s" % (one, other))
                    self.refused("a%sb%s%sc" % (one, other, one))
                    self.refused("(a%sb%s)" % (one, other))
                    self.refused("a%sb%s -o c" % (one, other))
                    self.refused("(a%sb%sc)" % (one, other))
                    self.refused("a%s~b%s!c" % (one, other))
                    self.refused("a%s(b)%sc" % (one, other))
                    self.refused("d -o a%sb%sc" % (one, other))
                    self.assertEqual(form_read("a%s(b%sc)" % (one, other)), "a%s(b%sc)" % (one, other))
                    self.assertEqual(form_read("(a%sb)%sc" % (one, other)), "(a%sb)%sc" % (one, other))
                    self.assertEqual(last(read(0, "a%sb -o c%sd" % (one, other))), [4])


class Length(unittest.TestCase):
    def test_2000_and_2001_bytes(self):
        self.assertEqual(last(read(0, "a" + " " * 1999)), [1])
        self.assertEqual(last(read(0, "a" + " " * 2000)), NOT_READ)
        self.assertEqual(last(read(0, " " * 1999 + "a")), [1])
        self.assertEqual(last(read(0, " " * 2000 + "a")), NOT_READ)
        self.assertEqual(last(read(0, "a" + " " * 2099)), NOT_READ)
        self.assertEqual(last(read(0, "a" * 2000)), NOT_READ)


class Open(unittest.TestCase):
    """Not more than 100 signs open at one place."""

    def within(self, text, expected=(1,)):
        self.assertEqual(last(read(0, text)), list(expected), text)

    def past(self, text):
        self.assertEqual(last(read(0, text)), NOT_READ, text)

    def test_brackets(self):
        self.within("(" * 100 + "a" + ")" * 100)
        self.past("(" * 101 + "a" + ")" * 101)

    def test_tildes(self):
        self.within("~" * 100 + "a")
        self.assertEqual(form_read("~" * 99 + "a"), "~a")
        self.past("~" * 101 + "a")

    def test_of_course_and_why_not(self):
        for sign in "!?":
            self.within(sign * 100 + "a", OUT_OF_BOUNDS)
            self.past(sign * 101 + "a")

    def test_chain_signs(self):
        for sign in "*|&+":
            self.within(chain(101, sign), OUT_OF_BOUNDS)
            self.past(chain(102, sign))

    def test_arrows(self):
        self.within(chain(101, "-o"), OUT_OF_BOUNDS)
        self.past(chain(102, "-o"))

    def test_mixed(self):
        opened = "(" * 98
        closed = ")" * 98
        self.within(opened + "~!a" + closed)
        self.past(opened + "~!?a" + closed)
        self.within(opened + "a*~b" + closed, [2])
        self.past(opened + "a*~~b" + closed)
        self.within(opened + "a*b*c" + closed, [3])
        self.past(opened + "a*b*c*d" + closed)
        self.within(opened + "a -o b -o c" + closed, [3])
        self.past(opened + "a -o b -o c -o d" + closed)
        self.within(opened + "a -o b*c" + closed, [3])
        self.past(opened + "a -o b*!c" + closed)
        self.past(opened + "a*(b*c)" + closed)

    def test_ended_signs_are_no_longer_open(self):
        # ~ ends with its part, ( with its ), a chain's signs with their chain.
        opened = "(" * 98
        closed = ")" * 98
        self.within(opened + "~~a*~b*c" + closed, [3])
        self.within(opened + "(~a)*~b" + closed, [2])
        self.within(opened + "a*b*c -o d*e" + closed, [5])
        self.within(opened + "a*b*c" + closed + "*b*c", [5])
        self.within(opened + "a -o b -o c" + closed + " -o b -o c", [5])
        self.within("(" * 100 + "a" + ")" * 100 + "*" + "(" * 99 + "b" + ")" * 99, [2])
        self.past("(" * 100 + "a" + ")" * 100 + "*" + "(" * 100 + "b" + ")" * 100)
        self.within("~" * 100 + "a|" + "~" * 99 + "b", [2])
        self.within(("(" * 50 + "a" + ")" * 50 + "*") * 3 + "a", [4])
        self.within("*".join(["((a|b))"] * 20), [40])

    def test_the_first_side_of_an_arrow_is_not_behind_it(self):
        self.within("~" * 100 + "a -o " + "~" * 99 + "b", [2])
        self.past("a -o " + "~" * 100 + "b")

    def test_long_and_flat(self):
        self.past("*".join(["(a*a)"] * 300))
        self.past("(" * 1000 + "a" + ")" * 999)
        self.past("(" * 2000)
        self.past("~" * 2000)


class Bounds(unittest.TestCase):
    def test_60_and_61_atoms(self):
        # Two chains side by side, so that the depth stays below 40.
        self.assertEqual(last(read(0, "(%s)|(%s)" % (chain(30), chain(30)))), [60])
        self.assertEqual(last(read(0, "(%s)|(%s)" % (chain(30), chain(31)))), OUT_OF_BOUNDS)
        self.assertEqual(last(read(0, "%s -o %s" % (chain(30), chain(31)))), OUT_OF_BOUNDS)

    def nodes_text(self, extra):
        # 20 atoms with 8 signs before each: 180 nodes; 19 tensors: 199; depth 28; extra signs ahead of it all.
        return "!" * extra + "(" + "*".join(["!?!?!?!?a"] * 20) + ")"

    def test_200_and_201_nodes(self):
        self.assertEqual(last(read(0, self.nodes_text(0))), [20])
        self.assertEqual(last(read(0, self.nodes_text(1))), [20])
        self.assertEqual(last(read(0, self.nodes_text(2))), OUT_OF_BOUNDS)

    def test_depth_40_and_41(self):
        self.assertEqual(last(read(0, "!" * 39 + "a")), [1])
        self.assertEqual(last(read(0, "!" * 40 + "a")), OUT_OF_BOUNDS)
        self.assertEqual(last(read(0, chain(40))), [40])
        self.assertEqual(last(read(0, chain(41))), OUT_OF_BOUNDS)
        self.assertEqual(last(read(0, chain(40, "-o"))), [40])
        self.assertEqual(last(read(0, chain(41, "-o"))), OUT_OF_BOUNDS)
        self.assertEqual(last(read(0, "(" * 38 + "a*b" + ")*c" * 38)), [40])
        self.assertEqual(last(read(0, "(" * 39 + "a*b" + ")*c" * 39)), OUT_OF_BOUNDS)
        self.assertEqual(last(read(0, "%sa*b" % ("?" * 38))), [2])
        self.assertEqual(last(read(0, "a*%sb" % ("?" * 38))), [2])
        self.assertEqual(last(read(0, "a*%sb" % ("?" * 39))), OUT_OF_BOUNDS)
        self.assertEqual(last(read(0, "%sb*a" % ("?" * 39))), OUT_OF_BOUNDS)

    def test_tildes_and_brackets_are_no_nodes(self):
        self.assertEqual(last(read(0, "~" * 80 + "a")), [1])
        self.assertEqual(last(read(0, "(" * 80 + "a" + ")" * 80)), [1])
        self.assertEqual(last(read(0, "~!" * 39 + "a")), [1])

    def test_far_past_the_bounds(self):
        self.assertEqual(last(read(0, whole_tree(6))), [32])
        self.assertEqual(last(read(0, whole_tree(7))), OUT_OF_BOUNDS)
        text = "a"
        for level in range(90):
            text = "(%s*b-oc)" % text
        self.assertEqual(last(read(0, text)), OUT_OF_BOUNDS)


class Refusals(unittest.TestCase):
    def test_number_of_formula(self):
        for k in NOT_HELD:
            self.assertEqual(last(read(k, "a")), [-2])
        for k in range(10):
            self.assertEqual(form_after(k, read(k, "b")), "b")

    def test_order(self):
        for k in NOT_HELD:
            self.assertEqual(last(read(k, "a*")), [-2])
            self.assertEqual(last(read(k, "!" * 60 + "a")), [-2])
        # Past the bounds, and no formula either.
        self.assertEqual(last(read(0, "!" * 60 + "a*")), NOT_READ)
        self.assertEqual(last(read(0, chain(70) + "|b")), NOT_READ)

    def test_after_a_refusal_all_is_as_it_was(self):
        calls = [read(k, "b%d*c" % k) for k in range(10)]
        calls += [read(4, "a|b&c"), read(4, "!" * 60 + "a"), read(4, ""), read(10, "z"), read(-6, "z")]
        given = ask(*calls, *[form(k) for k in range(10)])
        self.assertEqual(given[10:15], [[-1], [-5], [-1], [-2], [-2]])
        self.assertEqual([text_in(answer) for answer in given[15:]], ["b%d*c" % k for k in range(10)])

    def test_only_formula_k_changes(self):
        given = ask(read(7, "x"), *[form(k) for k in range(10)])
        self.assertEqual([text_in(answer) for answer in given[1:]], ["a"] * 7 + ["x"] + ["a"] * 2)


if __name__ == "__main__":
    unittest.main()
