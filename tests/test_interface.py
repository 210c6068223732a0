"""The interface: one list of calls handed in, one list of answers given back."""

import copy
import inspect
import unittest

import countedlogic.formulas
from countedlogic.formulas import answers
from tests.helper import NOT_HELD, ask, atoms, build, chain, dual, form, forms_of_all, last, part, read, rename, size


def long_line():
    calls = read(0, "a*b -o c") + form(0) + dual(0, 1) + form(1) + part(1, [0, 1]) + size(1) + atoms(0)
    calls += build(2, 0, 1, 2) + rename(2, "a", "x") + form(2) + read(3, "a*") + form(11) + part(2, [0, 0, 0, 0])
    return calls + build(9, 0, 0, 0) + read(4, "!" * 40 + "a")


class Interface(unittest.TestCase):
    def test_argument(self):
        self.assertEqual(list(inspect.signature(countedlogic.formulas.answers).parameters), ["calls"])

    def test_several_calls_in_one_list(self):
        self.assertEqual(answers([0, 3, 3, 97, 42, 98, 1, 3, 2, 3, 4, 1, 4, 1, 5]), [
            1, 2,
            4, 3, 97, 42, 98,
            1, 2,
            6, 5, 126, 97, 124, 126, 98,
            2, 1, 97])

    def test_each_call_alone(self):
        self.assertEqual(answers([0, 0, 1, 98]), [1, 1])
        self.assertEqual(answers([1, 0]), [2, 1, 97])
        self.assertEqual(answers([2, 0, 1]), [1, 1])
        self.assertEqual(answers([3, 0, 0]), [2, 1, 97])
        self.assertEqual(answers([4, 0]), [9, 1, 1, 1, 0, 0, 0, 0, 0, 0])
        self.assertEqual(answers([5, 0]), [5, 1, 1, 97, 1, 0])
        self.assertEqual(answers([6, 0, 0, 0, 0]), [1, 2])
        self.assertEqual(answers([7, 0, 1, 97, 1, 98]), [1, 1])

    def test_refusals_are_one_number(self):
        self.assertEqual(answers([0, 10, 1, 98]), [1, -2])
        self.assertEqual(answers([0, 0, 0]), [1, -1])
        self.assertEqual(answers([1, 10]), [1, -2])
        self.assertEqual(answers([2, 0, 10]), [1, -2])
        self.assertEqual(answers([3, 0, 1, 0]), [1, -4])
        self.assertEqual(answers([4, -1]), [1, -2])
        self.assertEqual(answers([5, -1]), [1, -2])
        self.assertEqual(answers([6, 6, 0, 0, 0]), [1, -1])
        self.assertEqual(answers([7, 0, 0, 0]), [1, -1])

    def test_a_refused_call_is_passed_over_whole(self):
        # The numbers of the refused calls' rows are no calls.
        self.assertEqual(ask(read(99, "abc"), part(99, [1, 0]), rename(99, "b", "c"), part(0, [6, 6]), form(0)),
                         [[-2], [-2], [-2], [-4], [1, 97]])

    def test_empty_rows(self):
        self.assertEqual(ask(read(0, ""), part(0, []), rename(0, "", ""), rename(0, "a", ""), rename(0, "", "a"), form(0)),
                         [[-1], [1, 97], [-1], [-1], [-1], [1, 97]])

    def test_the_ten_formulas_at_the_beginning(self):
        self.assertEqual(forms_of_all(), ["a"] * 10)
        for k in range(10):
            self.assertEqual(ask(form(k), size(k), atoms(k)), [[1, 97], [1, 1, 1, 0, 0, 0, 0, 0, 0], [1, 1, 97, 1, 0]])

    def test_the_ten_are_apart(self):
        self.assertEqual(forms_of_all(*[read(k, "b%d" % k) for k in range(10)]), ["b%d" % k for k in range(10)])
        self.assertEqual(forms_of_all(rename(3, "a", "b")), ["a"] * 3 + ["b"] + ["a"] * 6)

    def test_numbers_of_formulas(self):
        for k in NOT_HELD:
            calls = (read(k, "b"), form(k), dual(k, 0), dual(0, k), part(k, []), size(k), atoms(k),
                     build(0, k, 0, 0), build(0, 0, k, 0), build(0, 0, 0, k), rename(k, "a", "b"))
            self.assertEqual(ask(*calls), [[-2]] * len(calls))
            self.assertEqual(forms_of_all(*calls), ["a"] * 10)

    def test_what_is_handed_in_stays(self):
        calls = long_line()
        before = copy.deepcopy(calls)
        answers(calls)
        self.assertEqual(calls, before)

    def test_a_second_time_answers_as_the_first(self):
        first = answers(long_line())
        answers(read(0, "z") + rename(1, "a", "q") + dual(2, 3))
        self.assertEqual(answers(long_line()), first)
        self.assertEqual(forms_of_all(), ["a"] * 10)

    def test_what_is_given_back_is_the_callers(self):
        given = answers([1, 0, 5, 0])
        given.clear()
        self.assertEqual(answers([1, 0, 5, 0]), [2, 1, 97, 5, 1, 1, 97, 1, 0])

    def test_kinds(self):
        given = answers(long_line())
        self.assertIs(type(given), list)
        self.assertEqual({type(number) for number in given}, {int})

    def test_most_calls(self):
        calls = []
        for step in range(120):
            calls += [build(4 + step % 2, 0, 0, 0), form(0)]
        given = ask(*calls)
        self.assertEqual(len(given), 240)
        self.assertEqual(given[76], [1])
        self.assertEqual(given[78], [-5])
        self.assertEqual(given[-1], given[77])

    def test_longest_list(self):
        text = "~" * 59 + "(" + chain(40) + ")"
        calls = [read(step % 10, text + " " * (2000 - len(text))) for step in range(8)]
        self.assertEqual(ask(*calls), [[40]] * 8)
        self.assertEqual(last(*calls, form(7))[1:4], [126, 97, 124])


if __name__ == "__main__":
    unittest.main()
