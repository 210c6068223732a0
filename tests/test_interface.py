"""The interface: one list of calls handed in, one list of answers given back."""

import copy
import inspect
import unittest

import countedlogic.formulas
from countedlogic.formulas import answers
from tests.helper import NOT_HELD, always, ask, atoms, bag, build, case, chain, dual, fill, form, forms_of_all, last, part
from tests.helper import read, rename, row, same, sequent, size, truth


def long_line():
    calls = read(0, "a*b -o c") + form(0) + dual(0, 1) + form(1) + part(1, [0, 1]) + size(1) + atoms(0)
    calls += build(2, 0, 1, 2) + rename(2, "a", "x") + form(2) + read(3, "a*") + form(11) + part(2, [0, 0, 0, 0])
    calls += build(9, 0, 0, 0) + read(4, "!" * 40 + "a") + fill(0, 1, 5, "c") + truth(5, "a b") + always(5) + same(0, 5)
    calls += case(0, 5) + sequent("a*b -o c, ~d") + bag("a,b", "b,a") + fill(0, 0, 0, "") + truth(0, " ") + always(10)
    return calls + same(0, 10) + case(10, 0) + sequent(",") + bag("", "!" * 40 + "a")


class Interface(unittest.TestCase):
    def test_argument(self):
        self.assertEqual(list(inspect.signature(countedlogic.formulas.answers).parameters), ["calls"])

    def test_several_calls_in_one_list(self):
        self.assertEqual(answers([0, 3, 3, 97, 42, 98, 1, 3, 2, 3, 4, 1, 4, 1, 5]), [
            1, 2,
            4, 3, 97, 42, 98,
            1, 2,
            6, 5, 126, 97, 124, 126, 98,
            2, 1, 97])

    def test_each_call_alone(self):
        self.assertEqual(answers([0, 0, 1, 98]), [1, 1])
        self.assertEqual(answers([1, 0]), [2, 1, 97])
        self.assertEqual(answers([2, 0, 1]), [1, 1])
        self.assertEqual(answers([3, 0, 0]), [2, 1, 97])
        self.assertEqual(answers([4, 0]), [9, 1, 1, 1, 0, 0, 0, 0, 0, 0])
        self.assertEqual(answers([5, 0]), [5, 1, 1, 97, 1, 0])
        self.assertEqual(answers([6, 0, 0, 0, 0]), [1, 2])
        self.assertEqual(answers([7, 0, 1, 97, 1, 98]), [1, 1])
        self.assertEqual(answers([8, 0, 1, 2, 1, 97]), [1, 1])
        self.assertEqual(answers([9, 0, 1, 97]), [1, 1])
        self.assertEqual(answers([9, 0, 0]), [1, 0])
        self.assertEqual(answers([10, 0]), [2, 0, 0])
        self.assertEqual(answers([11, 0, 1]), [2, 1, 0])
        self.assertEqual(answers([12, 0, 1]), [6, 1, 1, 1, 97, 1, 97])
        self.assertEqual(answers([13, 1, 98]), [6, 1, 1, 0, 1, 1, 98])
        self.assertEqual(answers([13, 0]), [5, 0, 0, 1, 1, 0])
        self.assertEqual(answers([14, 1, 98, 1, 98]), [1, 1])
        self.assertEqual(answers([14, 1, 98, 0]), [1, 0])

    def test_all_fifteen_in_one_list(self):
        self.assertEqual(ask(
            read(0, "b*~c"), form(0), dual(0, 1), part(0, [1]), size(0), atoms(0), build(1, 0, 1, 2), rename(1, "b", "d"),
            fill(2, 1, 3, "c"), truth(0, "b"), always(2), same(0, 2), case(0, 0), sequent("b,~b"), bag("b,c", "c,b"),
        ), [
            [2], row("b*~c"), [2], row("~c"), [3, 2, 2, 1, 0, 0, 0, 0, 0], [2, 1, 98, 1, 0, 1, 99, 0, 1], [4], [1],
            [2], [1], [1, 0], [0, 0], [1, 2] + row("b") + row("b") + row("c") + row("c"), [2, 2, 1, 1] + row("b, ~b"), [1],
        ])

    def test_all_fifteen_the_other_way_round(self):
        self.assertEqual(ask(
            bag("b,b", "b"), sequent(""), case(0, 9), same(3, 4), always(5), truth(6, "a"), fill(0, 1, 2, "b"),
            rename(3, "a", "b"), build(4, 3, 0, 3), atoms(3), size(3), part(3, [0]), dual(3, 3), form(3), read(3, "a,"),
        ), [
            [0], [0, 0, 1, 1, 0], [1, 1, 1, 97, 1, 97], [1, 0], [0, 0], [1], [0],
            [1], [1], [1, 1, 98, 1, 0], [2, 1, 2, 0, 0, 0, 0, 1, 0], [1, 98], [1], row("?~b"), [-1],
        ])

    def test_refusals_are_one_number(self):
        self.assertEqual(answers([0, 10, 1, 98]), [1, -2])
        self.assertEqual(answers([0, 0, 0]), [1, -1])
        self.assertEqual(answers([1, 10]), [1, -2])
        self.assertEqual(answers([2, 0, 10]), [1, -2])
        self.assertEqual(answers([3, 0, 1, 0]), [1, -4])
        self.assertEqual(answers([4, -1]), [1, -2])
        self.assertEqual(answers([5, -1]), [1, -2])
        self.assertEqual(answers([6, 6, 0, 0, 0]), [1, -1])
        self.assertEqual(answers([7, 0, 0, 0]), [1, -1])
        self.assertEqual(answers([8, 0, 0, 10, 1, 97]), [1, -2])
        self.assertEqual(answers([8, 0, 0, 0, 0]), [1, -1])
        self.assertEqual(answers([9, -1, 0]), [1, -2])
        self.assertEqual(answers([9, 0, 1, 32]), [1, -1])
        self.assertEqual(answers([10, -1]), [1, -2])
        self.assertEqual(answers([11, 0, 10]), [1, -2])
        self.assertEqual(answers([12, 0, 10]), [1, -2])
        self.assertEqual(answers([13, 1, 44]), [1, -1])
        self.assertEqual(answers([14, 0, 1, 44]), [1, -1])

    def test_a_refused_call_is_passed_over_whole(self):
        # The numbers of the refused calls' rows are no calls.
        self.assertEqual(ask(read(99, "abc"), part(99, [1, 0]), rename(99, "b", "c"), part(0, [6, 6]), form(0)),
                         [[-2], [-2], [-2], [-4], [1, 97]])
        self.assertEqual(ask(fill(0, 0, 99, "b"), truth(99, "b"), fill(0, 0, 0, [6, 6]), truth(0, [14, 13]), sequent([1, 1]),
                             bag([1], [2, 2]), bag("b", [1, 1]), form(0)),
                         [[-2], [-2], [-1], [-1], [-1], [-1], [-1], [1, 97]])

    def test_empty_rows(self):
        self.assertEqual(ask(read(0, ""), part(0, []), rename(0, "", ""), rename(0, "a", ""), rename(0, "", "a"), form(0)),
                         [[-1], [1, 97], [-1], [-1], [-1], [1, 97]])
        self.assertEqual(ask(fill(0, 0, 0, ""), truth(0, ""), sequent(""), bag("", ""), bag("b", ""), bag("", "b"), form(0)),
                         [[-1], [0], [0, 0, 1, 1, 0], [1], [0], [0], [1, 97]])

    def test_the_ten_formulas_at_the_beginning(self):
        self.assertEqual(forms_of_all(), ["a"] * 10)
        for k in range(10):
            self.assertEqual(ask(form(k), size(k), atoms(k)), [[1, 97], [1, 1, 1, 0, 0, 0, 0, 0, 0], [1, 1, 97, 1, 0]])

    def test_the_ten_are_apart(self):
        self.assertEqual(forms_of_all(*[read(k, "b%d" % k) for k in range(10)]), ["b%d" % k for k in range(10)])
        self.assertEqual(forms_of_all(rename(3, "a", "b")), ["a"] * 3 + ["b"] + ["a"] * 6)

    def test_numbers_of_formulas(self):
        for k in NOT_HELD:
            calls = (read(k, "b"), form(k), dual(k, 0), dual(0, k), part(k, []), size(k), atoms(k),
                     build(0, k, 0, 0), build(0, 0, k, 0), build(0, 0, 0, k), rename(k, "a", "b"), fill(k, 0, 0, "a"),
                     fill(0, k, 0, "a"), fill(0, 0, k, "a"), truth(k, ""), always(k), same(k, 0), same(0, k),
                     case(k, 0), case(0, k))
            self.assertEqual(ask(*calls), [[-2]] * len(calls))
            self.assertEqual(forms_of_all(*calls), ["a"] * 10)

    def test_what_is_handed_in_stays(self):
        calls = long_line()
        before = copy.deepcopy(calls)
        answers(calls)
        self.assertEqual(calls, before)

    def test_a_second_time_answers_as_the_first(self):
        first = answers(long_line())
        answers(read(0, "z") + rename(1, "a", "q") + dual(2, 3) + fill(4, 0, 4, "a"))
        self.assertEqual(answers(long_line()), first)
        self.assertEqual(forms_of_all(), ["a"] * 10)

    def test_what_is_given_back_is_the_callers(self):
        given = answers([1, 0, 5, 0])
        given.clear()
        self.assertEqual(answers([1, 0, 5, 0]), [2, 1, 97, 5, 1, 1, 97, 1, 0])

    def test_kinds(self):
        given = answers(long_line())
        self.assertIs(type(given), list)
        self.assertEqual({type(number) for number in given}, {int})

    def test_most_calls(self):
        calls = []
        for step in range(120):
            calls += [build(4 + step % 2, 0, 0, 0), form(0)]
        given = ask(*calls)
        self.assertEqual(len(given), 240)
        self.assertEqual(given[76], [1])
        self.assertEqual(given[78], [-5])
        self.assertEqual(given[-1], given[77])

    def test_most_calls_of_each_kind(self):
        names = ["n%02d" % number for number in range(12)]
        text = "(%s)|(%s)" % ("*".join(names), "|".join("~" + name for name in names))
        first = [read(0, text), read(1, text)]
        held = "(%s)|%s" % ("*".join(names), "|".join("~" + name for name in names))
        for call, expected in ((always(0), [1, 0]), (same(0, 1), [1, 0]), (truth(0, "n00 n01"), [1]), (form(1), row(held)),
                               (fill(0, 3, 2, "n00"), [2]), (fill(0, 1, 2, "n00"), [-5]), (fill(0, 0, 0, "z"), [0]),
                               (sequent("b, c"), [2, 2, 0, 1] + row("b, c")), (bag("b,c", "c,b"), [1]),
                               (case(2, 1), [1, 1, 1, 97] + row(held))):
            self.assertEqual(ask(*first, *[call] * 238)[2:], [expected] * 238)

    def test_long_answers(self):
        atom = "abcdefghijkl"
        side = "*".join(["~" + atom] * 30)
        text = "(%s)|(%s)" % (side, side)
        names = ["n%02d" % number for number in range(60)]
        pattern = "(%s)|(%s)" % ("*".join(names[:30]), "*".join(names[30:]))
        filled_in = []
        for name in names:
            filled_in += row(name) + row("~" + atom)
        given = ask(read(0, text), read(1, pattern), *[form(0), case(2, 0), case(1, 0)] * 79)
        self.assertEqual(given[2:], [row(text), [1, 1, 1, 97] + row(text), [1, 60] + filled_in] * 79)

    def test_longest_list(self):
        text = "~" * 59 + "(" + chain(40) + ")"
        calls = [read(step % 10, text + " " * (2000 - len(text))) for step in range(8)]
        self.assertEqual(ask(*calls), [[40]] * 8)
        self.assertEqual(last(*calls, form(7))[1:4], [126, 97, 124])


if __name__ == "__main__":
    unittest.main()
