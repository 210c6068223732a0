"""Points 10 and 11: truth and always."""

import itertools
import unittest

from tests.helper import NO_NAMES, NOT_HELD, always, ask, chain, forms_of_all, last, read, row, truth


def names_of(count):
    """So many different names, in the order of texts."""
    return ["n%02d" % number for number in range(count)]


class Truth(unittest.TestCase):
    def check(self, text, choice, expected):
        self.assertEqual(last(read(3, text), truth(3, choice)), [expected], (text, choice))

    def test_atoms(self):
        self.check("b", "", 0)
        self.check("b", "b", 1)
        self.check("b", "c", 0)
        self.check("~b", "", 1)
        self.check("~b", "b", 0)
        self.check("~b", "c", 1)

    def test_both(self):
        for sign in "*&":
            for choice, expected in (("", 0), ("b", 0), ("c", 0), ("b c", 1), ("c b", 1)):
                self.check("b%sc" % sign, choice, expected)
            for choice, expected in (("", 0), ("b", 1), ("c", 0), ("b c", 0)):
                self.check("b%s~c" % sign, choice, expected)

    def test_one_of_them(self):
        for sign in "|+":
            for choice, expected in (("", 0), ("b", 1), ("c", 1), ("b c", 1), ("c b", 1)):
                self.check("b%sc" % sign, choice, expected)
            for choice, expected in (("", 1), ("b", 1), ("c", 0), ("b c", 1)):
                self.check("b%s~c" % sign, choice, expected)

    def test_of_course_and_why_not(self):
        for sign in "!?":
            self.check(sign + "b", "", 0)
            self.check(sign + "b", "b", 1)
            self.check(sign + "~b", "", 1)
            self.check(sign + "~b", "b", 0)
            self.check(sign + "(b*c)", "b", 0)
            self.check(sign + "(b|c)", "b", 1)

    def test_nested(self):
        text = "(b*!(c|~d))+?(e&~b)"
        for chosen in itertools.product((False, True), repeat=4):
            b, c, d, e = chosen
            choice = " ".join(name for name, taken in zip("bcde", chosen) if taken)
            self.check(text, choice, int(b and (c or not d) or e and not b))

    def test_arrow(self):
        for choice, expected in (("", 1), ("b", 0), ("c", 1), ("b c", 1)):
            self.check("b -o c", choice, expected)

    def test_several_names(self):
        self.check("b*c*d", "b c d", 1)
        self.check("b*c*d", "d b c", 1)
        self.check("b*c*d", "b d", 0)

    def test_a_name_twice(self):
        self.check("b", "b b", 1)
        self.check("~b", "b b", 0)
        self.check("b*c", "b c b c", 1)
        self.check("b*c", "b b", 0)

    def test_a_name_that_does_not_stand_there(self):
        self.check("b", "c d e", 0)
        self.check("~b", "c d e", 1)
        self.check("b", "c b e", 1)

    def test_only_whole_names(self):
        self.check("ab", "a", 0)
        self.check("ab", "a b", 0)
        self.check("ab", "abc", 0)
        self.check("a", "ab", 0)
        self.check("abcdefghijkl", "abcdefghijk", 0)
        self.check("abcdefghijkl", "abcdefghijkl", 1)

    def test_long_choices(self):
        self.check("b", " ".join(["c"] * 1049 + ["b"]), 1)
        self.check("b", " ".join(["c"] * 1050), 0)
        self.check("~zz", " ".join(["z"] * 1050), 1)

    def test_each_formula(self):
        for k in range(10):
            self.assertEqual(last(truth(k, "a")), [1])
            self.assertEqual(last(truth(k, "")), [0])

    def test_blanks(self):
        for choice in (" ", "  ", " b", "b ", "b  c", " b c", "b c ", "b c  d", "b   c", "  b", "b  "):
            self.assertEqual(last(read(0, "b"), truth(0, choice)), [-1], choice)

    def test_no_names(self):
        for text in NO_NAMES:
            if text == "" or text == "a b":
                continue
            text = list(text.encode("ascii")) if isinstance(text, str) else text
            self.assertEqual(last(truth(0, text)), [-1], text)
            self.assertEqual(last(truth(0, ([97, 32] + text)[:2100])), [-1], text)
            if len(text) < 2000:
                self.assertEqual(last(truth(0, text + [32, 97])), [-1], text)
                self.assertEqual(last(truth(0, [97, 32] + text + [32, 97])), [-1], text)

    def test_other_bytes_between(self):
        for byte in range(256):
            within = byte == 32 or chr(byte) in "abcdefghijklmnopqrstuvwxyz0123456789"
            self.assertEqual(last(truth(0, [98, byte, 98])), [0 if within else -1], byte)

    def test_number_of_formula_first(self):
        for k in NOT_HELD:
            for choice in ("", "a", " ", "1", "a  b"):
                self.assertEqual(last(truth(k, choice)), [-2])

    def test_changes_nothing(self):
        self.assertEqual(forms_of_all(read(4, "b*c"), truth(4, "b"), truth(4, " "), truth(-4, "")),
                         ["a"] * 4 + ["b*c"] + ["a"] * 5)


class Always(unittest.TestCase):
    def true(self, text):
        self.assertEqual(last(read(3, text), always(3)), [1, 0], text)

    def false(self, text, names):
        self.assertEqual(last(read(3, text), always(3)), [0] + row(names), text)
        # It is false there indeed.
        self.assertEqual(last(read(3, text), truth(3, names)), [0], text)

    def test_example(self):
        self.assertEqual(last(read(0, "a|b"), always(0)), [0, 0])

    def test_at_the_beginning(self):
        self.assertEqual(last(always(9)), [0, 0])

    def test_true_under_every_choice(self):
        for text in ("b|~b", "b+~b", "~b|b", "!(b|~b)", "?b|~b", "b|!~b", "(b|~b)*(c+~c)", "(b|~b)&(b+~b)", "b|c|~b",
                     "(b*c)|~b|~c", "b -o b", "b*c -o c*b", "(b -o c) -o (c -o d) -o b -o d", "((b -o c) -o b) -o b",
                     "(b*c)+(b*~c)+(~b*c)+(~b*~c)"):
            self.true(text)

    def test_first_under_the_empty_choice(self):
        for text in ("b", "b*c", "b|c", "b&~b", "!b", "?b", "(b|~b)*c", "b*~b", "(~b*c)|(b*~c)"):
            self.false(text, "")

    def test_first_under_one_name(self):
        self.false("~b", "b")
        self.false("!~b", "b")
        self.false("~b*~b", "b")
        self.false("~b|c", "b")
        self.false("b|~c", "c")
        self.false("~b*~c", "c")
        self.false("~b*~c*~d", "d")
        self.false("~b*(c|~c)", "b")

    def test_first_under_several_names(self):
        self.false("~b|~c", "b c")
        self.false("~c|~b", "b c")
        self.false("~b|~c|~d", "b c d")
        self.false("~d|~c|~b|e", "b c d")
        self.false("(~b|~c)*(~b|~d)", "b d")
        self.false("b -o c -o d", "b c")

    def test_which_choice_comes_first(self):
        # False under b alone and under c with d alone: the one without b comes first.
        self.false("(~b|c|d)*(b|~c|~d)", "c d")
        # False under b alone and under b with c: the one without c.
        self.false("~b|(c*~c)", "b")
        # False under c alone and under d alone.
        self.false("(b|~c|d)*(b|c|~d)", "d")
        # False under b, c and under b, d.
        self.false("(~b|~c|d)*(~b|c|~d)", "b d")

    def test_order_is_that_of_the_names_not_of_the_text(self):
        self.false("~z*~y*~x", "z")
        self.false("(x|~y)*(~x|y)", "y")
        self.false("(y|~x)*(~y|x)", "y")

    def test_names_of_which_one_begins_with_another(self):
        self.false("~a|~ab|~abc", "a ab abc")
        self.false("~abc|~ab|~a", "a ab abc")
        self.false("~ab*~a", "ab")
        self.false("~abc*~ab*~a*~b", "b")
        self.false("~a1*~a*~aa", "aa")
        self.false("(a|~ab)*(~a|ab)", "ab")

    def test_digits_before_letters(self):
        self.false("~aa|~a9|~a10|~a1", "a1 a10 a9 aa")
        self.false("~aa*~a9", "aa")

    def test_every_choice_as_the_first_one(self):
        names = ["b", "ba", "c", "c1"]
        for chosen in itertools.product((False, True), repeat=4):
            # False under this choice alone.
            text = "|".join("~" * taken + name for taken, name in zip(chosen, names))
            self.false(text, " ".join(name for taken, name in zip(chosen, names) if taken))

    def test_every_pair_of_choices(self):
        names = ["b", "c", "d"]
        choices = list(itertools.product((False, True), repeat=3))
        for first, second in itertools.combinations(choices, 2):
            parts = ["|".join("~" * taken + name for taken, name in zip(choice, names)) for choice in (second, first)]
            self.false("(%s)*(%s)" % tuple(parts), " ".join(name for taken, name in zip(first, names) if taken))

    def test_each_of_twelve_names_alone(self):
        names = names_of(12)
        for alone in range(12):
            text = "|".join("~" * (position == alone) + name for position, name in enumerate(names))
            self.false(text, names[alone])

    def test_twelve_names(self):
        names = names_of(12)
        self.false("|".join("~" + name for name in names), " ".join(names))
        self.false("|".join("~" + name for name in reversed(names)), " ".join(names))
        self.false("*".join("~" + name for name in names), names[-1])
        self.false("|".join(names), "")
        self.true("|".join(["~" + names[0]] + names))
        self.true("|".join(["~" + names[-1]] + names))
        self.true("*".join("(%s|~%s)" % (name, name) for name in names))
        self.false("*".join("(%s|~%s)" % (name, name) for name in names[1:]) + "*~" + names[0], names[0])
        self.false("(%s)|%s" % ("*".join(names), "|".join("~" + name for name in names[:6])), " ".join(names[:6]))

    def test_fewer_names(self):
        for count in range(1, 13):
            names = names_of(count)
            self.false("|".join("~" + name for name in names), " ".join(names))
            self.false("*".join("~" + name for name in names), names[-1])
            self.true("*".join("(%s|~%s)" % (name, name) for name in names))

    def test_thirteen_names(self):
        for count in (13, 14, 40):
            names = names_of(count)
            self.assertEqual(last(read(3, "*".join(names)), always(3)), [-7])
            self.assertEqual(last(read(3, "|".join(names)), always(3)), [-7])
        self.assertEqual(last(read(3, "|".join(["~n00"] + names_of(13))), always(3)), [-7])

    def test_names_count_once(self):
        names = names_of(12)
        text = "(%s)|(%s)" % ("*".join(names * 2), "*".join("~" + name for name in names * 2))
        self.assertEqual(last(read(3, text), always(3)), [0] + row(names[-1]))
        self.assertEqual(last(read(3, chain(40)), always(3)), [0, 0])

    def test_longest_answer(self):
        names = ["abcdefghij%02d" % number for number in range(12)]
        self.false("|".join("~" + name for name in names), " ".join(names))

    def test_many_calls(self):
        names = names_of(12)
        text = "(%s)&(%s)" % ("|".join(["~n00"] + names + names), "|".join(["~n11"] + names + names))
        self.assertEqual(ask(read(0, text), *[always(0)] * 239)[1:], [[1, 0]] * 239)

    def test_number_of_formula_first(self):
        for k in NOT_HELD:
            self.assertEqual(last(always(k)), [-2])

    def test_changes_nothing(self):
        many = "*".join(names_of(13))
        self.assertEqual(forms_of_all(read(4, "b|~b"), read(5, many), always(4), always(5), always(0), always(10)),
                         ["a"] * 4 + ["b|~b", many] + ["a"] * 4)


if __name__ == "__main__":
    unittest.main()
